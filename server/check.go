package server

import (
	"postbag/api"
	"postbag/moment"
)

// checkRules tells why there can be no machine of these rules.
func checkRules(r api.Rules) api.Errno {
	const end = api.MaxNumber - 1
	switch {
	case max(len(r.User), len(r.Pass)) > api.MaxLiteral:
		return api.ErrLong
	case !isWithin(r.Quota, 1, api.MaxDisk), !isWithin(r.Validity, 1, end), !isWithin(r.Uid, 1, end), !isWithin(r.Number, 2, end), !isWithin(r.Every, 0, api.MaxNumber):
		return api.ErrNumber
	case !moment.Valid(r.Now):
		return api.ErrArg
	}
	return api.OK
}

func isWithin(n, least, most int) bool { return least <= n && n <= most }

// check tells why a step cannot be played now.
func (s *Server) check(x api.Step) api.Errno {
	switch {
	case len(x.Bytes) > api.MaxPiece, len(x.Stops) > api.MaxSteps:
		return api.ErrLong
	case !s.takes(x.Kind):
		return api.ErrStep
	case !s.reaches(x):
		return api.ErrConn
	}
	return api.OK
}

// takes tells whether there can be a step of a kind now.
func (s *Server) takes(kind int) bool {
	switch kind {
	case api.StepPlan:
		return true
	case api.StepStart:
		return s.Down()
	case api.StepOpen, api.StepBytes, api.StepCut, api.StepCheck:
		return !s.Down()
	}
	return false
}

// reaches tells whether the connection of a step is as it must be: not open where it is to begin, else open.
func (s *Server) reaches(x api.Step) bool {
	switch x.Kind {
	case api.StepOpen:
		return isNumber(x.Conn) && !s.conns[x.Conn].isOpen()
	case api.StepBytes, api.StepCut:
		return isNumber(x.Conn) && s.conns[x.Conn].isOpen()
	}
	return true
}

func isNumber(conn int) bool { return isWithin(conn, 1, api.MaxConns) }
