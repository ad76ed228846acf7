package device_test

import (
	"maps"
	"math"
	"slices"
	"strconv"
	"strings"
	"testing"

	"augury/api"
	"augury/device"
)

// must fails the test unless the act is done.
func must(t *testing.T, e api.Errno) {
	t.Helper()
	if e != api.OK {
		t.Fatal("not done:", e)
	}
}

// want fails the test unless got is the error that the document asks for.
func want(t *testing.T, what string, got, want api.Errno) {
	t.Helper()
	if got != want {
		t.Errorf("%s: got %d, want %d", what, got, want)
	}
}

// state is all that a device shows of itself.
type state struct {
	files map[string]string
	used  int
	acts  int
	down  bool
}

// files are the names and bytes of all files; the power is there.
func files(t *testing.T, d *device.Device) map[string]string {
	t.Helper()
	all := map[string]string{}
	for _, n := range d.Names() {
		b, e := d.Read(n)
		must(t, e)
		all[n] = string(b)
	}
	return all
}

func look(t *testing.T, d *device.Device) state {
	t.Helper()
	return state{files(t, d), d.Used(), d.Acts(), d.Down()}
}

// holds fails the test unless the device has just these files: names and bytes in turn.
func holds(t *testing.T, d *device.Device, pairs ...string) {
	t.Helper()
	all := map[string]string{}
	for i := 0; i < len(pairs); i += 2 {
		all[pairs[i]] = pairs[i+1]
	}
	if got := files(t, d); !maps.Equal(got, all) {
		t.Errorf("files %q, want %q", got, all)
	}
}

// logs are so many files with names of their own.
func logs(n int) []api.Log {
	var l []api.Log
	for i := range n {
		l = append(l, api.Log{Name: "f-" + strconv.Itoa(i), Data: []byte{byte(i)}})
	}
	return l
}

var goodNames = []string{"a", "z", "0", "9", "-", "a-0", "log-1", strings.Repeat("x", api.MaxName)}

var badNames = []string{"", strings.Repeat("x", api.MaxName+1), "A", "Z", "_", "a.b", "a/b", "a b", "a\x00", "`", "{", "/", ":", ",", ".", "é", "a\xff", "aB", "Ba"}

// P1.1, A1: New.
func TestNew(t *testing.T) {
	for _, room := range []int{math.MinInt, -1, 0, 1, math.MaxInt} {
		d := device.New(room)
		if d == nil {
			t.Fatal("none")
		}
		if len(d.Names()) != 0 || d.Used() != 0 || d.Acts() != 0 || d.Down() {
			t.Error(room, d.Names(), d.Used(), d.Acts(), d.Down())
		}
	}
}

// P1.1, A1: Of, and what may not be.
func TestOf(t *testing.T) {
	d := device.Of(3, []api.Log{{Name: "b", Data: []byte("xyz")}, {Name: "a"}, {Name: "c", Data: []byte("uv")}})
	holds(t, d, "a", "", "b", "xyz", "c", "uv")
	if d.Used() != 5 || d.Acts() != 0 || d.Down() {
		t.Error(d.Used(), d.Acts(), d.Down())
	}
	for _, n := range goodNames {
		if device.Of(0, []api.Log{{Name: n}}) == nil {
			t.Errorf("%q is a name", n)
		}
	}
	for _, n := range badNames {
		if device.Of(9, []api.Log{{Name: "a"}, {Name: n}}) != nil {
			t.Errorf("%q is no name", n)
		}
	}
	if device.Of(9, []api.Log{{Name: "a"}, {Name: "b"}, {Name: "a", Data: []byte("x")}}) != nil {
		t.Error("two are one")
	}
	if d := device.Of(9, nil); d == nil || len(d.Names()) != 0 {
		t.Error("no files")
	}
}

// P1.1, A1: the bounds of Of: 64 files and one more, 2^18 bytes and one more.
func TestOfBounds(t *testing.T) {
	if d := device.Of(0, logs(api.MaxFiles)); d == nil || len(d.Names()) != 64 || d.Used() != 64 {
		t.Error("64 files")
	}
	if device.Of(math.MaxInt, logs(api.MaxFiles+1)) != nil {
		t.Error("65 files")
	}
	if d := device.Of(0, []api.Log{{Name: "a", Data: make([]byte, api.MaxFile)}}); d == nil || d.Used() != 1<<18 {
		t.Error("2^18 bytes")
	}
	if device.Of(math.MaxInt, []api.Log{{Name: "a", Data: make([]byte, api.MaxFile+1)}}) != nil {
		t.Error("2^18 bytes and one")
	}
}

// P1.1, A1: what Of is given is synced, and was there at first.
func TestOfSynced(t *testing.T) {
	d := device.Of(9, []api.Log{{Name: "a", Data: []byte("ab")}, {Name: "b", Data: []byte("x")}, {Name: "c"}})
	must(t, d.Remove("b"))
	must(t, d.Append("a", []byte("c")))
	d.Crash(nil)
	holds(t, d, "a", "ab", "b", "x", "c", "")
}

// P1.1, A2: bytes go behind those that are there; a file without any is made, too.
func TestAppend(t *testing.T) {
	d := device.New(100)
	must(t, d.Append("a", []byte("ab")))
	must(t, d.Append("b", nil))
	must(t, d.Append("a", []byte("\x00\xff")))
	must(t, d.Append("a", nil))
	must(t, d.Append("c", []byte{}))
	holds(t, d, "a", "ab\x00\xff", "b", "", "c", "")
	if d.Acts() != 5 || d.Used() != 4 {
		t.Error(d.Acts(), d.Used())
	}
	for _, n := range goodNames {
		want(t, n, d.Append(n, []byte("x")), api.OK)
	}
	for _, n := range badNames {
		want(t, n, d.Append(n, []byte("x")), api.ErrArg)
	}
}

// P1.1, A2: a room that is just full, and rooms in which there is none.
func TestAppendRoom(t *testing.T) {
	d := device.New(5)
	must(t, d.Append("a", []byte("abc")))
	want(t, "3 and 3", d.Append("b", []byte("def")), api.ErrFull)
	want(t, "3 and 3, behind", d.Append("a", []byte("def")), api.ErrFull)
	must(t, d.Append("b", []byte("de")))
	want(t, "one more", d.Append("c", []byte("f")), api.ErrFull)
	want(t, "none more", d.Append("c", nil), api.OK)
	must(t, d.Remove("a"))
	want(t, "three again", d.Append("c", []byte("ghi")), api.OK)
	holds(t, d, "b", "de", "c", "ghi")

	want(t, "no room, no byte", device.New(0).Append("a", nil), api.OK)
	want(t, "no room, one byte", device.New(0).Append("a", []byte("x")), api.ErrFull)
	want(t, "less than no room", device.New(-1).Append("a", nil), api.ErrFull)
	over := device.Of(1, []api.Log{{Name: "a", Data: []byte("xy")}})
	want(t, "more than the room", over.Append("a", nil), api.ErrFull)
	must(t, over.Remove("a"))
	want(t, "in the room", over.Append("a", []byte("x")), api.OK)
}

// P1.1, A2: 64 files and one more.
func TestAppendFiles(t *testing.T) {
	d := device.New(1000)
	for _, l := range logs(api.MaxFiles) {
		must(t, d.Append(l.Name, l.Data))
	}
	want(t, "the 65th", d.Append("more", nil), api.ErrTooMany)
	want(t, "one that is there", d.Append("f-63", []byte("x")), api.OK)
	must(t, d.Remove("f-0"))
	want(t, "in its place", d.Append("more", nil), api.OK)
	want(t, "the 65th again", d.Append("f-0", nil), api.ErrTooMany)
}

// P1.1, A2: 2^18 bytes and one more, at once and one behind the other.
func TestAppendBytes(t *testing.T) {
	d := device.New(math.MaxInt)
	want(t, "one more at once", d.Append("a", make([]byte, api.MaxFile+1)), api.ErrTooMany)
	want(t, "all at once", d.Append("a", make([]byte, api.MaxFile)), api.OK)
	want(t, "one more", d.Append("a", []byte("x")), api.ErrTooMany)
	want(t, "none more", d.Append("a", nil), api.OK)
	must(t, d.Append("b", make([]byte, api.MaxFile-1)))
	want(t, "two more", d.Append("b", []byte("xy")), api.ErrTooMany)
	want(t, "the last", d.Append("b", []byte("x")), api.OK)
	if d.Used() != 2<<18 {
		t.Error(d.Used())
	}
}

// P1.1, A2, and P2: of several errors the one that is named first.
func TestAppendFirstError(t *testing.T) {
	d := device.Of(1, logs(api.MaxFiles))
	want(t, "no name, too many, full", d.Append("A", make([]byte, api.MaxFile+1)), api.ErrArg)
	want(t, "too many, full", d.Append("more", make([]byte, 1)), api.ErrTooMany)
	want(t, "too long, full", d.Append("f-0", make([]byte, api.MaxFile)), api.ErrTooMany)
	want(t, "full", d.Append("f-0", nil), api.ErrFull)
	d.Fuse(0)
	want(t, "down", d.Append("A", nil), api.ErrDown)
}

// P1.1, A3: Remove.
func TestRemove(t *testing.T) {
	d := device.Of(9, []api.Log{{Name: "a", Data: []byte("x")}, {Name: "b"}})
	for _, n := range badNames {
		want(t, n, d.Remove(n), api.ErrArg)
	}
	want(t, "not there", d.Remove("c"), api.ErrNone)
	want(t, "there", d.Remove("a"), api.OK)
	want(t, "twice", d.Remove("a"), api.ErrNone)
	holds(t, d, "b", "")
	if d.Acts() != 1 || d.Used() != 0 {
		t.Error(d.Acts(), d.Used())
	}
	_, e := d.Read("a")
	want(t, "read", e, api.ErrNone)
	must(t, d.Append("a", []byte("y")))
	holds(t, d, "a", "y", "b", "")
}

// P1.1, A3: what was removed is gone for good behind a Sync, and all bytes are synced.
func TestSync(t *testing.T) {
	d := device.New(9)
	want(t, "no files", d.Sync(), api.OK)
	must(t, d.Append("a", []byte("ab")))
	must(t, d.Append("b", []byte("cd")))
	must(t, d.Sync())
	must(t, d.Remove("a"))
	must(t, d.Append("b", []byte("ef")))
	must(t, d.Sync())
	d.Crash([]api.Kept{{Name: "a", Many: 9}, {Name: "b", Many: -1}})
	holds(t, d, "b", "cdef")
	if d.Acts() != 7 {
		t.Error(d.Acts())
	}
}

// P1.1, A4: Read, and which error it answers; names rise by their bytes.
func TestRead(t *testing.T) {
	d := device.Of(9, []api.Log{{Name: "b", Data: []byte("xy")}, {Name: "a9"}, {Name: "a-"}, {Name: "a"}, {Name: "9"}, {Name: "aa"}, {Name: "-"}})
	if n := d.Names(); !slices.Equal(n, []string{"-", "9", "a", "a-", "a9", "aa", "b"}) {
		t.Error(n)
	}
	if b, e := d.Read("b"); string(b) != "xy" || e != api.OK {
		t.Error(b, e)
	}
	for _, n := range badNames {
		b, e := d.Read(n)
		want(t, n, e, api.ErrArg)
		if len(b) != 0 {
			t.Error(b)
		}
	}
	if b, e := d.Read("c"); len(b) != 0 || e != api.ErrNone {
		t.Error(b, e)
	}
	if d.Acts() != 0 {
		t.Error("reading is no act")
	}
	d.Fuse(0)
	if b, e := d.Read("b"); string(b) != "xy" || e != api.OK {
		t.Error("the power is still there", b, e)
	}
	d.Sync()
	for _, n := range []string{"b", "c", "A"} {
		if b, e := d.Read(n); len(b) != 0 || e != api.ErrDown {
			t.Error(n, b, e)
		}
	}
	if len(d.Names()) != 7 || d.Used() != 2 || d.Acts() != 0 || !d.Down() {
		t.Error("these are told without power, too")
	}
}

// P1.1, A5: the fuse lets so many acts be done, then the power goes.
func TestFuse(t *testing.T) {
	for n := range 4 {
		d := device.New(9)
		d.Fuse(n)
		acts := []func() api.Errno{
			func() api.Errno { return d.Append("a", []byte("x")) },
			d.Sync,
			func() api.Errno { return d.Remove("a") },
			d.Sync,
		}
		for i, act := range acts {
			e := api.OK
			if i >= n {
				e = api.ErrDown
			}
			want(t, strconv.Itoa(n), act(), e)
			if d.Down() != (i >= n) || d.Acts() != min(i+1, n) {
				t.Error(n, i, d.Down(), d.Acts())
			}
		}
	}
}

// P1.1, A5: a fuse below 0 is none; one is taken for another one.
func TestFuseNone(t *testing.T) {
	for _, n := range []int{-1, -2, math.MinInt} {
		d := device.New(9)
		d.Fuse(1)
		d.Fuse(n)
		for range 3 {
			want(t, "no fuse", d.Sync(), api.OK)
		}
	}
	d := device.New(9)
	d.Fuse(0)
	d.Fuse(math.MaxInt)
	want(t, "a long one", d.Sync(), api.OK)
	d.Fuse(0)
	want(t, "a short one", d.Sync(), api.ErrDown)
	d.Fuse(-1)
	want(t, "the power is gone", d.Sync(), api.ErrDown)
	d.Fuse(3)
	want(t, "the power is still gone", d.Remove("a"), api.ErrDown)
}

// P1.1, A5: at its end every act has the power go, whatever it would have come to.
func TestFuseGoesFirst(t *testing.T) {
	for i := range 4 {
		d := device.New(0)
		d.Fuse(0)
		e := []func() api.Errno{
			func() api.Errno { return d.Append("A", nil) },
			func() api.Errno { return d.Append("a", []byte("x")) },
			func() api.Errno { return d.Remove("A") },
			func() api.Errno { return d.Remove("a") },
		}[i]()
		want(t, strconv.Itoa(i), e, api.ErrDown)
		if !d.Down() {
			t.Error(i, "the power is there")
		}
	}
}

// P1.1, A5: behind a crash there is no fuse, the power is back, and the acts are as many as before.
func TestCrashPower(t *testing.T) {
	d := device.New(9)
	must(t, d.Append("a", nil))
	d.Fuse(1)
	d.Crash(nil)
	for range 3 {
		want(t, "no fuse", d.Sync(), api.OK)
	}
	d.Fuse(0)
	want(t, "down", d.Sync(), api.ErrDown)
	d.Crash(nil)
	if d.Down() || d.Acts() != 4 {
		t.Error(d.Down(), d.Acts())
	}
	want(t, "back", d.Sync(), api.OK)
	want(t, "and stays", d.Sync(), api.OK)
}
