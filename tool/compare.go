package tool

import (
	"cmp"
	"slices"
	"strings"

	"postbag/api"
	"postbag/store"
)

// pair is what two lists have of one key; nil: that list has nothing of it.
type pair[T any] struct{ first, second *T }

// along goes along two rising lists at once.
func along[T any](a, b []T, order func(x, y T) int) []pair[T] {
	var out []pair[T]
both:
	for len(a) > 0 {
		for { // what b alone has ahead of a's next
			if len(b) == 0 {
				break both
			}
			switch c := order(a[0], b[0]); {
			case c < 0:
				out = append(out, pair[T]{first: &a[0]})
				a = a[1:]
				continue both
			case c == 0:
				out = append(out, pair[T]{&a[0], &b[0]})
				a, b = a[1:], b[1:]
				continue both
			}
			out = append(out, pair[T]{second: &b[0]})
			b = b[1:]
		}
	}
	for i := range a {
		out = append(out, pair[T]{first: &a[i]})
	}
	for i := range b {
		out = append(out, pair[T]{second: &b[i]})
	}
	return out
}

// alone is what only one list has, and which one, in words; nil: both have it.
func (p pair[T]) alone() (*T, string) {
	switch {
	case p.second == nil:
		return p.first, "only first "
	case p.first == nil:
		return p.second, "only second "
	}
	return nil, ""
}

// differences are lines, one for each thing.
type differences struct{ lines []string }

func (d *differences) tell(line string) { d.lines = append(d.lines, line) }

func (d *differences) numbers(what string, a, b int) {
	if a != b {
		d.tell(what + numbers(a, b))
	}
}

func (d *differences) boxes(a, b *store.Store) {
	byName := func(x, y api.BoxSight) int { return strings.Compare(x.Name, y.Name) }
	for _, p := range along(a.Boxes(), b.Boxes(), byName) {
		if box, only := p.alone(); box != nil {
			d.tell(only + quoted(box.Name))
			continue
		}
		name := quoted(p.first.Name)
		d.numbers("validity "+name, p.first.Validity, p.second.Validity)
		d.numbers("next "+name, p.first.Next, p.second.Next)
		d.numbers("highest "+name, p.first.Highest, p.second.Highest)
		d.mails(name, mailsIn(a, *p.first), mailsIn(b, *p.second))
	}
}

func (d *differences) mails(name string, a, b []api.Mail) {
	byUid := func(x, y api.Mail) int { return cmp.Compare(x.Uid, y.Uid) }
	for _, p := range along(a, b, byUid) {
		if m, only := p.alone(); m != nil {
			d.tell(only + name + numbers(m.Uid))
			continue
		}
		d.mail(name+numbers(p.first.Uid), *p.first, *p.second)
	}
}

func (d *differences) mail(place string, a, b api.Mail) {
	d.numbers("modseq "+place, a.Modseq, b.Modseq)
	if !slices.Equal(a.Flags, b.Flags) {
		d.tell("flags " + place + " " + bracketed(a.Flags) + " " + bracketed(b.Flags))
	}
	if a.Date != b.Date {
		d.tell("date " + place)
	}
	if a.Raw != b.Raw {
		d.tell("body " + place)
	}
}

func (d *differences) subscriptions(a, b []string) {
	for _, p := range along(a, b, strings.Compare) {
		if name, only := p.alone(); name != nil {
			d.tell(only + "subscription " + quoted(*name))
		}
	}
}
