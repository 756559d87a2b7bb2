// Package records is how nodes remember records of package msg in a journal, and restore from them what a crash lost.
package records

import (
	"locum/api"
	"locum/journal"
	"locum/msg"
)

// Remember puts a record where no crash loses it, and then replays it. With an error it replays nothing.
func Remember(disk *journal.Journal, record api.Msg, replay func(api.Msg)) api.Errno {
	kind, body, err := msg.Body(record)
	if err != api.OK {
		return err
	}
	if err := disk.Append(kind, body); err != api.OK {
		return err
	}
	if err := disk.Sync(); err != api.OK {
		return err
	}
	replay(record)
	return api.OK
}

// Restore opens a journal, and replays those of its records that are messages, in order. With an error it replays nothing.
func Restore(disk *journal.Journal, replay func(api.Msg)) api.Errno {
	kinds, bodies, err := disk.Open()
	if err != api.OK {
		return err
	}
	for i, body := range bodies {
		if record, err := msg.Of(kinds[i], body); err == api.OK {
			replay(record)
		}
	}
	return api.OK
}
