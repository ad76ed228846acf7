package device_test

import (
	"maps"
	"math"
	"strconv"
	"testing"

	"augury/api"
	"augury/device"
)

// worn is a device of which some is synced, some not, and some removed, with a
// fuse of 2; its room is full but for two bytes.
func worn(t *testing.T) *device.Device {
	t.Helper()
	d := device.New(10)
	must(t, d.Append("a", []byte("ab")))
	must(t, d.Append("b", []byte("cd")))
	must(t, d.Sync())
	must(t, d.Append("a", []byte("ef")))
	must(t, d.Append("n", []byte("ghij")))
	must(t, d.Remove("b"))
	d.Fuse(2)
	return d
}

// refusals are calls that worn devices refuse, and their errors.
var refusals = []struct {
	call func(d *device.Device) api.Errno
	want api.Errno
}{
	{func(d *device.Device) api.Errno { return d.Append("A", []byte("x")) }, api.ErrArg},
	{func(d *device.Device) api.Errno { return d.Append("", nil) }, api.ErrArg},
	{func(d *device.Device) api.Errno { return d.Append("a", make([]byte, api.MaxFile)) }, api.ErrTooMany},
	{func(d *device.Device) api.Errno { return d.Append("m", make([]byte, api.MaxFile+1)) }, api.ErrTooMany},
	{func(d *device.Device) api.Errno { return d.Append("a", []byte("xyz")) }, api.ErrFull},
	{func(d *device.Device) api.Errno { return d.Append("m", []byte("xyz")) }, api.ErrFull},
	{func(d *device.Device) api.Errno { return d.Append("b", []byte("xyz")) }, api.ErrFull},
	{func(d *device.Device) api.Errno { return d.Remove("A") }, api.ErrArg},
	{func(d *device.Device) api.Errno { return d.Remove("b") }, api.ErrNone},
	{func(d *device.Device) api.Errno { return d.Remove("m") }, api.ErrNone},
	{func(d *device.Device) api.Errno { _, e := d.Read("A"); return e }, api.ErrArg},
	{func(d *device.Device) api.Errno { _, e := d.Read("b"); return e }, api.ErrNone},
}

func same(a, b state) bool {
	return maps.Equal(a.files, b.files) && a.used == b.used && a.acts == b.acts && a.down == b.down
}

// P1.3: what is refused changes nothing that is seen, and nothing of the fuse.
func TestRefused(t *testing.T) {
	for i, c := range refusals {
		d := worn(t)
		before := look(t, d)
		for range 3 {
			want(t, strconv.Itoa(i), c.call(d), c.want)
		}
		if after := look(t, d); !same(before, after) {
			t.Error(i, before, after)
		}
		want(t, "the first", d.Sync(), api.OK)
		want(t, "the second", d.Sync(), api.OK)
		want(t, "the third", d.Sync(), api.ErrDown)
	}
}

// P1.3: nor does it change what a crash leaves.
func TestRefusedThenCrash(t *testing.T) {
	for _, c := range refusals {
		d := worn(t)
		c.call(d)
		d.Crash([]api.Kept{{Name: "a", Many: 1}, {Name: "m", Many: 9}, {Name: "b", Many: 9}})
		holds(t, d, "a", "abe", "b", "cd")
	}
}

// P1.3: what is refused without power changes nothing: nor is it done when the power is back.
func TestRefusedDown(t *testing.T) {
	d := worn(t)
	d.Fuse(0)
	used, acts := d.Used(), d.Acts()
	want(t, "append", d.Append("a", []byte("x")), api.ErrDown)
	want(t, "make", d.Append("m", nil), api.ErrDown)
	want(t, "remove", d.Remove("n"), api.ErrDown)
	want(t, "sync", d.Sync(), api.ErrDown)
	if d.Used() != used || d.Acts() != acts || len(d.Names()) != 2 {
		t.Error(d.Used(), d.Acts(), d.Names())
	}
	d.Crash([]api.Kept{{Name: "a", Many: 9}, {Name: "n", Many: 9}, {Name: "m", Many: 9}})
	holds(t, d, "a", "abef", "b", "cd", "n", "ghij")
}

// P1 (of all layers): calls end, and none panics, at all arguments.
func TestAllArguments(t *testing.T) {
	many := []int{math.MinInt, -1, 0, 1, api.MaxFile, math.MaxInt}
	names := append(append([]string{"a", "n"}, badNames...), goodNames...)
	for _, m := range many {
		for _, n := range names {
			d := device.Of(m, []api.Log{{Name: "a", Data: []byte("ab")}, {Name: "z"}})
			d.Fuse(m)
			d.Append(n, nil)
			d.Append(n, make([]byte, 3))
			d.Read(n)
			d.Remove(n)
			d.Sync()
			d.Append(n, make([]byte, 5))
			d.Crash([]api.Kept{{Name: n, Many: m}, {Name: n, Many: -m}})
			d.Crash([]api.Kept{})
			if d.Used() < 0 || d.Down() || len(d.Names()) < 1 {
				t.Error(m, n)
			}
		}
	}
}

// P3: bytes that are handed in are neither changed nor kept, nor is their spare room.
func TestHandedIn(t *testing.T) {
	room := []byte("abcdef")
	l := []api.Log{{Name: "a", Data: room[:2]}, {Name: "c", Data: room[5:]}}
	d := device.Of(99, l)
	must(t, d.Append("a", []byte("xx")))
	must(t, d.Append("b", room[2:4]))
	must(t, d.Append("b", []byte("yy")))
	if string(room) != "abcdef" {
		t.Errorf("%q", room)
	}
	copy(room, "------")
	l[0] = api.Log{Name: "q"}
	holds(t, d, "a", "abxx", "b", "cdyy", "c", "f")
	keep := []api.Kept{{Name: "b", Many: 1}, {Name: "a", Many: 1}}
	d.Crash(keep)
	if keep[0] != (api.Kept{Name: "b", Many: 1}) || keep[1] != (api.Kept{Name: "a", Many: 1}) {
		t.Error(keep)
	}
	holds(t, d, "a", "abx", "b", "c", "c", "f")
}

// P3: lists that come out are new memory, their spare room too.
func TestComesOut(t *testing.T) {
	d := device.New(99)
	for _, b := range []string{"ab", "cd", "e"} {
		must(t, d.Append("a", []byte(b)))
	}
	must(t, d.Append("b", nil))
	b, _ := d.Read("a")
	b = b[:cap(b)]
	for i := range b {
		b[i] = '-'
	}
	n := d.Names()
	n = n[:cap(n)]
	for i := range n {
		n[i] = "-"
	}
	must(t, d.Append("a", []byte("f")))
	holds(t, d, "a", "abcdef", "b", "")
	c, _ := d.Read("a")
	must(t, d.Append("a", []byte("g")))
	must(t, d.Sync())
	d.Crash(nil)
	if string(c) != "abcdef" {
		t.Errorf("%q", c)
	}
}

// P3: two devices that are given the same answer the same, and do not touch one another.
func TestApart(t *testing.T) {
	l := []api.Log{{Name: "a", Data: []byte("ab")}}
	d, other := device.Of(9, l), device.Of(9, l)
	must(t, d.Append("a", []byte("c")))
	must(t, d.Append("b", nil))
	holds(t, other, "a", "ab")
	must(t, other.Append("a", []byte("c")))
	must(t, other.Append("b", nil))
	if !same(look(t, d), look(t, other)) {
		t.Error(look(t, d), look(t, other))
	}
}
