package disk

import "postbag/api"

// Plan says when the machine will stop, stop by stop.
func (d *Disk) Plan(stops []api.Stop) {
	if !d.isMade() {
		return
	}
	d.stops = nil
	for _, stop := range stops {
		if stop.At >= 1 {
			d.stops = append(d.stops, stop)
		}
	}
}

// due takes the next stop off the plan, if it falls on the operation that was just counted. (While the machine has stopped nothing is counted, so each stop's count begins with the Start behind the one ahead of it.)
func (d *Disk) due() (api.Stop, bool) {
	if len(d.stops) == 0 {
		return api.Stop{}, false
	}
	next := d.stops[0]
	if next.At > 1 {
		d.stops[0].At--
		return api.Stop{}, false
	}
	d.stops = d.stops[1:]
	return next, true
}

// tear stops the machine: every file loses what is not durable, but for the first so many bytes of that.
func (d *Disk) tear(rest int) {
	for _, f := range d.files {
		loose := len(f.data) - f.durable
		d.cut(f, f.durable+within(rest, loose))
		f.durable = len(f.data)
	}
	d.runs = false
}

// within is n, or the end of 0 to most that is next to it.
func within(n, most int) int { return max(0, min(n, most)) }
