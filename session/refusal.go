package session

import (
	"errors"

	"postbag/api"
)

// errNumber: a set by number names a message that the view does not have.
var errNumber = errors.New("no such message")

// refusal is a row of T6 that applies.
type refusal struct {
	code int
	args []api.Value
	why  error
}

func (r *refusal) Error() string {
	return [...]string{
		api.CodeAuth:        "wrong user or password",
		api.CodeCharset:     "unknown charset",
		api.CodeReadOnly:    "it is open for reading alone",
		api.CodeIssued:      "some of these have gone",
		api.CodeCannot:      "no mailbox may be named so",
		api.CodeNone:        "no such mailbox",
		api.CodeTry:         "no such mailbox",
		api.CodeAlready:     "there is such a mailbox",
		api.CodeHasChildren: "others lie below it",
		api.CodeInUse:       "it is in use",
		api.CodeLimit:       "that is more than may be",
		api.CodeQuota:       "the disk is full",
	}[r.code]
}

func (r *refusal) Unwrap() error { return r.why }

func refuse(code int, args ...api.Value) error {
	return &refusal{code, args, api.WhyRefused}
}

// planned is the row of T6 for which a plan's error stands, nil if there is none; missing: the code where there is no such mailbox.
func planned(code api.Errno, missing int) error {
	switch code {
	case api.OK:
		return nil
	case api.ErrCannot:
		return refuse(api.CodeCannot)
	case api.ErrBox:
		return refuse(missing)
	case api.ErrThere:
		return refuse(api.CodeAlready)
	case api.ErrInferior:
		return refuse(api.CodeHasChildren)
	}
	return refuse(api.CodeLimit)
}
