package play

import (
	"strings"

	"postbag/api"
)

const (
	lineEnd  = "\r\n"
	maxStops = 8

	rulesShape = "rules user Q pass Q quota N validity N uid N number N every N now N N N N N N N"
)

// shape is a line as the document writes its form: names as they are, N for a number, Q for a quoted word (a name has no large letters).
func shape(words []word) string {
	var out []string
	for _, w := range words {
		switch w.kind {
		case isNumber:
			out = append(out, "N")
		case isQuoted:
			out = append(out, "Q")
		default:
			out = append(out, w.text)
		}
	}
	return strings.Join(out, " ")
}

// rulesOf reads the line of the rules; false: it is none.
func rulesOf(words []word) (api.Rules, bool) {
	if shape(words) != rulesShape {
		return api.Rules{}, false
	}
	now := words[16:]
	return api.Rules{
		User: words[2].text, Pass: words[4].text,
		Quota: words[6].num, Validity: words[8].num, Uid: words[10].num, Number: words[12].num, Every: words[14].num,
		Now: api.Moment{
			Year: now[0].num, Month: now[1].num, Day: now[2].num,
			Hour: now[3].num, Minute: now[4].num, Second: now[5].num, Zone: now[6].num,
		},
	}, true
}

func rulesWords(r api.Rules) []word {
	return []word{
		name("rules"), name("user"), quoted(r.User), name("pass"), quoted(r.Pass),
		name("quota"), number(r.Quota), name("validity"), number(r.Validity), name("uid"), number(r.Uid),
		name("number"), number(r.Number), name("every"), number(r.Every),
		name("now"), number(r.Now.Year), number(r.Now.Month), number(r.Now.Day),
		number(r.Now.Hour), number(r.Now.Minute), number(r.Now.Second), number(r.Now.Zone),
	}
}

// stepOf reads the line of a step; false: it is none.
func stepOf(words []word) (api.Step, bool) {
	switch shape(words) {
	case "open N":
		return api.Step{Kind: api.StepOpen, Conn: words[1].num}, true
	case "bytes N Q":
		return api.Step{Kind: api.StepBytes, Conn: words[1].num, Bytes: words[2].text}, true
	case "line N Q":
		return api.Step{Kind: api.StepBytes, Conn: words[1].num, Bytes: words[2].text + lineEnd}, true
	case "cut N":
		return api.Step{Kind: api.StepCut, Conn: words[1].num}, true
	case "start":
		return api.Step{Kind: api.StepStart}, true
	case "check":
		return api.Step{Kind: api.StepCheck}, true
	}
	return planOf(words)
}

func planOf(words []word) (api.Step, bool) {
	count := (len(words) - 1) / 3
	if count > maxStops || shape(words) != "plan"+strings.Repeat(" N N N", count) {
		return api.Step{}, false
	}
	x := api.Step{Kind: api.StepPlan}
	for i := range count {
		stop := words[1+3*i:]
		x.Stops = append(x.Stops, api.Stop{At: stop[0].num, Part: stop[1].num, Rest: stop[2].num})
	}
	return x, true
}

// hasLine tells whether there is a line that says all of a step, but for how great its numbers may be.
func hasLine(x api.Step) bool {
	hasConn, hasBytes, hasStops := false, false, false
	switch x.Kind {
	case api.StepOpen, api.StepCut:
		hasConn = true
	case api.StepBytes:
		hasConn, hasBytes = true, true
	case api.StepPlan:
		hasStops = len(x.Stops) <= maxStops
	case api.StepStart, api.StepCheck:
	default:
		return false
	}
	return (hasConn || x.Conn == 0) && (hasBytes || x.Bytes == "") && (hasStops || len(x.Stops) == 0)
}

func stepWords(x api.Step) []word {
	switch x.Kind {
	case api.StepOpen:
		return []word{name("open"), number(x.Conn)}
	case api.StepBytes:
		return bytesWords(x)
	case api.StepCut:
		return []word{name("cut"), number(x.Conn)}
	case api.StepPlan:
		return planWords(x)
	case api.StepStart:
		return []word{name("start")}
	}
	return []word{name("check")}
}

func bytesWords(x api.Step) []word {
	if line, is := strings.CutSuffix(x.Bytes, lineEnd); is {
		return []word{name("line"), number(x.Conn), quoted(line)}
	}
	return []word{name("bytes"), number(x.Conn), quoted(x.Bytes)}
}

func planWords(x api.Step) []word {
	out := []word{name("plan")}
	for _, stop := range x.Stops {
		out = append(out, number(stop.At), number(stop.Part), number(stop.Rest))
	}
	return out
}
