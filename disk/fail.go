package disk

import "postbag/api"

// fail is a new error, with the reason that its code has.
func fail(op, name string, step int, code api.Errno) error {
	return &api.Fail{Op: op, Name: name, Step: step, Code: code, Why: why(code)}
}

func why(code api.Errno) error {
	switch code {
	case api.ErrFile:
		return api.WhyName
	case api.ErrMissing:
		return api.WhyMissing
	case api.ErrQuota:
		return api.WhyQuota
	case api.ErrDown:
		return api.WhyDown
	}
	return api.WhyRefused
}
