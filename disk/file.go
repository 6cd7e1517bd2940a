package disk

import (
	"bytes"
	"strings"
)

// file is a file's bytes, of which the first so many are durable.
type file struct {
	data    []byte
	durable int
}

// longestName is how many bytes a name may have.
const longestName = 32

func isName(name string) bool {
	if len(name) < 1 || len(name) > longestName {
		return false
	}
	for i := range len(name) {
		if !isNameByte(name[i]) {
			return false
		}
	}
	return true
}

func isNameByte(c byte) bool {
	return c >= 'a' && c <= 'z' || c >= '0' && c <= '9' || c == '.' || c == '-' || c == '_'
}

// find is nil, if there is no such file.
func (d *Disk) find(name string) *file {
	if d == nil {
		return nil
	}
	return d.files[name]
}

// put gives a file a name. The name is copied, for it may be a piece of a long text that would stay in memory with it.
func (d *Disk) put(name string, f *file) { d.files[strings.Clone(name)] = f }

// grow appends to a file, which is made if it is not there.
func (d *Disk) grow(name, data string) {
	f := d.find(name)
	if f == nil {
		f = &file{}
		d.put(name, f)
	}
	f.data = append(f.data, data...)
	d.used += len(data)
}

// cut leaves a file its first n bytes alone, in new memory, so that the room of the others is given back.
func (d *Disk) cut(f *file, n int) {
	if n == len(f.data) {
		return
	}
	d.used -= len(f.data) - n
	f.data = bytes.Clone(f.data[:n])
	f.durable = min(f.durable, n)
}

// drop takes a file away, if it is there.
func (d *Disk) drop(name string) {
	if f := d.find(name); f != nil {
		d.used -= len(f.data)
		delete(d.files, name)
	}
}

// move gives a file that is there another name.
func (d *Disk) move(from, to string) {
	if from == to {
		return
	}
	d.drop(to)
	d.put(to, d.find(from))
	delete(d.files, from)
}
