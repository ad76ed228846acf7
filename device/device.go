// Package device is layer 1: files that grow at their ends, of which a crash
// cuts off what was not synced. See shared/doc/01-device.md.
package device

import (
	"bytes"
	"maps"
	"slices"
	"strings"

	"augury/api"
)

// noFuse stands for every fuse below 0, which no act comes to the end of.
const noFuse = -1

// file is one of a device: fresh, if it was not there at the last Sync.
type file struct {
	data   []byte
	synced int
	fresh  bool
}

// Device is files to which bytes are put behind, of which what was not synced
// may be cut off. Names are copied into its maps: one that is handed in may be
// a piece of a long text, which is not to be kept with it.
type Device struct {
	room    int
	files   map[string]*file
	removed map[string][]byte // what a crash brings back
	acts    int
	fuse    int // below 0: there is none
	down    bool
}

// New is a device without files, of so much room.
func New(room int) *Device {
	return &Device{room: room, files: map[string]*file{}, removed: map[string][]byte{}, fuse: noFuse}
}

// Of is a device of files, all synced; nil, if there can be none of these.
func Of(room int, l []api.Log) *Device {
	if len(l) > api.MaxFiles {
		return nil
	}
	d := New(room)
	for _, x := range l {
		if !isName(x.Name) || d.files[x.Name] != nil || len(x.Data) > api.MaxFile {
			return nil
		}
		d.file(x.Name).data = bytes.Clone(x.Data)
	}
	d.settle()
	return d
}

// Append puts bytes behind a file's, which is made, if there is none.
func (d *Device) Append(name string, b []byte) api.Errno {
	if d.powerless() {
		return api.ErrDown
	}
	if !isName(name) {
		return api.ErrArg
	}
	if !d.holds(name, len(b)) {
		return api.ErrTooMany
	}
	if d.Used()+len(b) > d.room {
		return api.ErrFull
	}
	f := d.file(name)
	f.data = append(f.data, b...)
	return d.done()
}

// Remove has a file go; until the next Sync a crash may bring it back.
func (d *Device) Remove(name string) api.Errno {
	if d.powerless() {
		return api.ErrDown
	}
	f, e := d.find(name)
	if e != api.OK {
		return e
	}
	if !f.fresh {
		// A copy, as the bytes behind these go for good.
		d.removed[strings.Clone(name)] = bytes.Clone(f.data[:f.synced])
	}
	delete(d.files, name)
	return d.done()
}

// Sync has all stay as it is.
func (d *Device) Sync() api.Errno {
	if d.powerless() {
		return api.ErrDown
	}
	d.settle()
	return d.done()
}

// Read is a file's bytes.
func (d *Device) Read(name string) ([]byte, api.Errno) {
	if d.down {
		return nil, api.ErrDown
	}
	f, e := d.find(name)
	if e != api.OK {
		return nil, e
	}
	return bytes.Clone(f.data), api.OK
}

// Names are the names of all files, rising.
func (d *Device) Names() []string {
	return slices.Sorted(maps.Keys(d.files))
}

// Used is how many bytes all files have.
func (d *Device) Used() int {
	n := 0
	for _, f := range d.files {
		n += len(f.data)
	}
	return n
}

// Acts is how many acts were done.
func (d *Device) Acts() int { return d.acts }

// Fuse has the power go ahead of the act behind n more; below 0 there is no fuse.
func (d *Device) Fuse(n int) { d.fuse = n }

// Down tells whether the power is gone.
func (d *Device) Down() bool { return d.down }

// Crash cuts off what was not synced, but for what is kept, and brings back
// what was removed; then the power is back.
func (d *Device) Crash(keep []api.Kept) {
	kept := firstOf(keep)
	for name, f := range d.files {
		many := kept(name)
		if f.fresh && many < 0 {
			delete(d.files, name)
			continue
		}
		f.data = f.data[:f.synced+min(max(many, 0), len(f.data)-f.synced)]
	}
	for name, data := range d.removed {
		d.files[name] = &file{data: data}
	}
	d.settle()
	d.fuse = noFuse
	d.down = false
}

// firstOf asks keep for the first of a name; a name that it has not is as one
// of which less than nothing is kept.
func firstOf(keep []api.Kept) func(name string) int {
	first := map[string]int{}
	for _, k := range keep {
		if _, ok := first[k.Name]; !ok {
			first[k.Name] = k.Many
		}
	}
	return func(name string) int {
		if many, ok := first[name]; ok {
			return many
		}
		return -1
	}
}

// isName tells whether a file may be called so.
func isName(s string) bool {
	if len(s) < 1 || len(s) > api.MaxName {
		return false
	}
	for i := range len(s) {
		c := s[i]
		if (c < 'a' || c > 'z') && (c < '0' || c > '9') && c != '-' {
			return false
		}
	}
	return true
}

// powerless stands ahead of each act: a fuse at its end has the power go,
// whatever the act would have come to.
func (d *Device) powerless() bool {
	d.down = d.down || d.fuse == 0
	return d.down
}

// done counts an act.
func (d *Device) done() api.Errno {
	d.acts++
	if d.fuse > 0 {
		d.fuse--
	}
	return api.OK
}

// find is the file of a name.
func (d *Device) find(name string) (*file, api.Errno) {
	if !isName(name) {
		return nil, api.ErrArg
	}
	f := d.files[name]
	if f == nil {
		return nil, api.ErrNone
	}
	return f, api.OK
}

// file is the file of a right name, made if it is not there.
func (d *Device) file(name string) *file {
	f := d.files[name]
	if f == nil {
		f = &file{fresh: true}
		d.files[strings.Clone(name)] = f
	}
	return f
}

// holds tells whether a file of this name may have n more bytes, or be made with them.
func (d *Device) holds(name string, n int) bool {
	f := d.files[name]
	if f == nil {
		return len(d.files) < api.MaxFiles && n <= api.MaxFile
	}
	return n <= api.MaxFile-len(f.data)
}

// settle has all that is there synced, and what was removed gone for good.
func (d *Device) settle() {
	for _, f := range d.files {
		f.synced = len(f.data)
		f.fresh = false
	}
	clear(d.removed)
}
