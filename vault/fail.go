package vault

import (
	"errors"

	"postbag/api"
)

// fail is a new error of the vault's own: it has no step, for none of the disk's operations brought it.
func fail(op, name string, code api.Errno, why error) error {
	return &api.Fail{Op: op, Name: name, Code: code, Why: why}
}

// isStop tells whether the machine stopped within an operation: that such an error has a step tells it from the vault's own, by which nothing was tried.
func isStop(err error) bool {
	var f *api.Fail
	return errors.Is(err, api.WhyDown) && errors.As(err, &f) && f.Step > 0
}
