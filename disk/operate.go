package disk

import "postbag/api"

// operate is the one place that counts operations and stops the machine within them. The code says whether the operation is refused; whole does all of it, part as much as a stop with such a Part lets it do.
func (d *Disk) operate(op, name string, code api.Errno, whole func(), part func(n int)) error {
	if d.Down() {
		return fail(op, name, 0, api.ErrDown)
	}
	d.steps++
	if stop, is := d.due(); is {
		if code == api.OK {
			part(stop.Part)
		}
		d.tear(stop.Rest)
		return fail(op, name, d.steps, api.ErrDown)
	}
	if code != api.OK {
		return fail(op, name, d.steps, code)
	}
	whole()
	return nil
}

// allOrNothing is the part of an operation that has no halves.
func allOrNothing(whole func()) func(n int) {
	return func(n int) {
		if n >= 1 {
			whole()
		}
	}
}

// Append puts bytes behind a file, which is made if it is not there.
func (d *Disk) Append(name, data string) error {
	code := api.OK
	if !isName(name) {
		code = api.ErrFile
	} else if len(data) > d.Quota()-d.Used() {
		code = api.ErrQuota
	}
	whole := func() { d.grow(name, data) }
	part := func(n int) { d.grow(name, data[:within(n, len(data))]) }
	return d.operate("append", name, code, whole, part)
}

// Sync makes all bytes of a file durable.
func (d *Disk) Sync(name string) error {
	f, code := d.look(name)
	whole := func() { f.durable = len(f.data) }
	return d.operate("sync", name, code, whole, allOrNothing(whole))
}

// Read is all of a file.
func (d *Disk) Read(name string) (string, error) {
	text := ""
	f, code := d.look(name)
	whole := func() { text = string(f.data) }
	err := d.operate("read", name, code, whole, func(int) {})
	return text, err
}

// Rename gives a file another name, in the place of one that has it.
func (d *Disk) Rename(from, to string) error {
	_, code := d.look(from)
	if !isName(to) {
		code = api.ErrFile
	}
	whole := func() { d.move(from, to) }
	return d.operate("rename", from, code, whole, allOrNothing(whole))
}

// Remove takes a file away.
func (d *Disk) Remove(name string) error {
	_, code := d.look(name)
	whole := func() { d.drop(name) }
	return d.operate("remove", name, code, whole, allOrNothing(whole))
}

// Truncate cuts a file.
func (d *Disk) Truncate(name string, n int) error {
	f, code := d.look(name)
	if code == api.OK && (n < 0 || n > len(f.data)) {
		code = api.ErrNumber
	}
	whole := func() { d.cut(f, n) }
	return d.operate("truncate", name, code, whole, allOrNothing(whole))
}

// look finds the file of an operation for which it must be there, or says why it is refused.
func (d *Disk) look(name string) (*file, api.Errno) {
	if !isName(name) {
		return nil, api.ErrFile
	}
	f := d.find(name)
	if f == nil {
		return nil, api.ErrMissing
	}
	return f, api.OK
}
