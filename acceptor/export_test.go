package acceptor

import "locum/api"

// Known is the plan that was decided before the epoch: the first one is in no answer.
func Known(a *Acceptor) api.Plan { return a.known }
