package journal_test

import (
	"fmt"
	"maps"
	"slices"
	"strconv"
	"strings"
	"testing"

	"augury/api"
	"augury/device"
	"augury/frame"
	"augury/journal"
)

// must fails the test unless e is OK.
func must(t *testing.T, e api.Errno) {
	t.Helper()
	if e != api.OK {
		t.Fatal("not done:", e)
	}
}

// want fails the test unless got is the error that the document asks for.
func want(t *testing.T, what string, got, want api.Errno) {
	t.Helper()
	if got != want {
		t.Errorf("%s: got %d, want %d", what, got, want)
	}
}

// found is what Open tells.
type found struct {
	picture string
	has     bool
	recs    []string
}

func (f found) is(g found) bool {
	return f.picture == g.picture && f.has == g.has && slices.Equal(f.recs, g.recs)
}

// String is short, whatever was found.
func (f found) String() string {
	return fmt.Sprintf("%v %.20q and %d records %.20q", f.has, f.picture, len(f.recs), f.recs)
}

// behind is what Open tells of a picture and records.
func behind(picture string, recs ...string) found { return found{picture, true, recs} }

// alone is what Open tells of records without a picture.
func alone(recs ...string) found { return found{"", false, recs} }

// open is the journal of a device that has the power.
func open(t *testing.T, d *device.Device) (*journal.Journal, found) {
	t.Helper()
	j, picture, has, recs, e := journal.Open(d)
	must(t, e)
	if j == nil {
		t.Fatal("no journal")
	}
	return j, found{picture, has, recs}
}

// opens fails the test unless the device is opened to just this.
func opens(t *testing.T, d *device.Device, f found) *journal.Journal {
	t.Helper()
	j, got := open(t, d)
	if !got.is(f) {
		t.Fatalf("opened %v, want %v", got, f)
	}
	return j
}

// frames are the bytes of records, one behind the other.
func frames(recs ...string) string {
	var b []byte
	for _, r := range recs {
		b = append(b, frame.Put(r)...)
	}
	return string(b)
}

// files are the names and bytes of all files; the power is there.
func files(t *testing.T, d *device.Device) map[string]string {
	t.Helper()
	all := map[string]string{}
	for _, n := range d.Names() {
		b, e := d.Read(n)
		must(t, e)
		all[n] = string(b)
	}
	return all
}

// holds fails the test unless the device has just these files: names and bytes in turn.
func holds(t *testing.T, d *device.Device, pairs ...string) {
	t.Helper()
	all := map[string]string{}
	for i := 0; i < len(pairs); i += 2 {
		all[pairs[i]] = pairs[i+1]
	}
	if got := files(t, d); !maps.Equal(got, all) {
		t.Errorf("files %.99q, want %.99q", got, all)
	}
}

// with is a device of files, all synced: names and bytes in turn.
func with(t *testing.T, pairs ...string) *device.Device {
	t.Helper()
	var l []api.Log
	for i := 0; i < len(pairs); i += 2 {
		l = append(l, api.Log{Name: pairs[i], Data: []byte(pairs[i+1])})
	}
	d := device.Of(1<<20, l)
	if d == nil {
		t.Fatal("no device of these")
	}
	return d
}

func long(n int) string { return strings.Repeat("x", n) }

// P3.1, C1: a device without files: no picture, no records, and the first log is log-1.
func TestOpenEmpty(t *testing.T) {
	d := device.New(99)
	j := opens(t, d, alone())
	if d.Acts() != 1 {
		t.Error("one Sync:", d.Acts())
	}
	must(t, j.Add("a"))
	holds(t, d, "log-1", frames("a"))
}

// P3.1, C1: which picture and which logs are found, which files stay, and which log is the next.
func TestOpen(t *testing.T) {
	for _, c := range []struct {
		what  string
		files []string
		want  found
		stay  []string
		next  string
	}{
		{"logs alone, rising by their numbers", []string{"log-10", frames("d"), "log-9", frames("b", "c"), "log-2", frames("a")},
			alone("a", "b", "c", "d"), []string{"log-10", "log-2", "log-9"}, "log-11"},
		{"a picture alone", []string{"snap-3", frames("p")}, behind("p"), []string{"snap-3"}, "log-4"},
		{"a picture of no bytes", []string{"snap-3", frames("")}, behind(""), []string{"snap-3"}, "log-4"},
		{"records of no bytes", []string{"log-1", frames("", "")}, alone("", ""), []string{"log-1"}, "log-2"},
		{"logs below, at and above a picture", []string{"log-4", frames("a"), "log-5", frames("b"), "snap-5", frames("p"), "log-6", frames("c"), "log-12", frames("d")},
			behind("p", "c", "d"), []string{"log-12", "log-6", "snap-5"}, "log-13"},
		{"logs below a picture alone", []string{"log-1", frames("a"), "log-4", frames("b"), "snap-5", frames("p")}, behind("p"), []string{"snap-5"}, "log-6"},
		{"several pictures, the greatest by its number", []string{"snap-2", frames("p"), "snap-10", frames("r"), "snap-9", frames("q"), "log-9", frames("a"), "log-11", frames("b")},
			behind("r", "b"), []string{"log-11", "snap-10"}, "log-12"},
		{"logs that end torn, one of none, one of no frames", []string{"log-1", frames("a") + "R\x00", "log-2", "", "log-3", "none" + frames("b"), "log-4", frames("c", "d") + "x" + frames("e")},
			alone("a", "c", "d"), []string{"log-1", "log-2", "log-3", "log-4"}, "log-5"},
		{"an empty log of the greatest number", []string{"snap-2", frames("p"), "log-7", ""}, behind("p"), []string{"log-7", "snap-2"}, "log-8"},
		{"records that are too long for a log", []string{"log-1", frames(long(4096), "a", long(4096))}, alone(long(4096), "a", long(4096)), []string{"log-1"}, "log-2"},
		{"other files", []string{"a", "x", "log-3", frames("a"), "z", frames("b")}, alone("a"), []string{"log-3"}, "log-4"},
		{"numbers of just so many digits as a name has room", []string{"log-9999999999999998", frames("b"), "snap-999999999999999", frames("p"), "log-1000000000000000", frames("a"), "log-999999999999999", frames("c")},
			behind("p", "a", "b"), []string{"log-1000000000000000", "log-9999999999999998", "snap-999999999999999"}, "log-9999999999999999"},
	} {
		t.Run(c.what, func(t *testing.T) {
			d := with(t, c.files...)
			before := files(t, d)
			j := opens(t, d, c.want)
			if d.Acts() != len(before)-len(c.stay)+1 {
				t.Error("acts", d.Acts())
			}
			after := files(t, d)
			if !slices.Equal(slices.Sorted(maps.Keys(after)), c.stay) {
				t.Errorf("stay %q, want %q", d.Names(), c.stay)
			}
			for n, b := range after {
				if b != before[n] {
					t.Error("changed:", n)
				}
			}
			must(t, j.Add("new"))
			after[c.next] = frames("new")
			if got := files(t, d); !maps.Equal(got, after) {
				t.Errorf("files %.99q, want %.99q", got, after)
			}
		})
	}
}

// P3.1, C1: a picture's file that is not one frame and nothing behind it is none, and is removed.
func TestOpenNoPicture(t *testing.T) {
	torn := frames("torn")
	for _, bad := range []string{
		"", "R", "p", torn[:len(torn)-1], torn[:5], torn + "x", torn + "R", torn + frames(""), frames("p", "q"), frames("", ""),
		"x" + torn, strings.Replace(torn, "t", "T", 1), strings.ToLower(torn), torn[1:], "\x00" + torn[1:],
		"R\x10\x01" + torn[3:5] + long(4097),
	} {
		d := with(t, "snap-9", bad, "log-9", frames("b"), "log-5", frames("a"))
		j := opens(t, d, alone("a", "b"))
		holds(t, d, "log-9", frames("b"), "log-5", frames("a"))
		must(t, j.Add("c"))
		holds(t, d, "log-9", frames("b"), "log-5", frames("a"), "log-10", frames("c"))

		d = with(t, "snap-9", bad, "snap-5", frames("p"), "snap-4", frames("o"), "snap-7", bad, "log-4", frames("a"), "log-5", frames("b"), "log-6", frames("c"))
		opens(t, d, behind("p", "c"))
		holds(t, d, "snap-5", frames("p"), "log-6", frames("c"))

		d = with(t, "snap-9", bad, "snap-5", bad, "log-1", frames("a"))
		opens(t, d, alone("a"))
		holds(t, d, "log-1", frames("a"))

		// A number that no file says any more is given again.
		j = opens(t, with(t, "snap-9", bad), alone())
		must(t, j.Add("a"))
	}
	d := with(t, "snap-9", "")
	must(t, opens(t, d, alone()).Add("a"))
	holds(t, d, "log-1", frames("a"))
}

// P3.1, C1: names that look like a log's or a picture's, but are none: these files are removed.
func TestOpenOtherNames(t *testing.T) {
	for _, n := range []string{
		"log-", "log-0", "log-00", "log-01", "log-07", "log-000000000000001", "log--1", "log-7-", "log-7a", "log-a7", "log-0x7", "log-1e3",
		"log7", "log", "7", "-7", "alog-7", "log-log-7", "logs-7", "log-7-7", "0log-7", "-log-7", "lo-7",
		"snap-", "snap-0", "snap-00", "snap-01", "snap-07", "snap-00000000000001", "snap--1", "snap-7-", "snap-7a", "snap-a7", "snap-0x7",
		"snap7", "snap", "asnap-7", "snap-snap-7", "snap-log-7", "log-snap-7", "snaps-7", "sna-7", "snap-7-7",
	} {
		d := with(t, n, frames("other"), "log-4", frames("a"))
		j := opens(t, d, alone("a"))
		holds(t, d, "log-4", frames("a"))
		must(t, j.Add("b"))
		holds(t, d, "log-4", frames("a"), "log-5", frames("b"))

		d = with(t, n, frames("other"), "snap-3", frames("p"), "log-4", frames("a"))
		opens(t, d, behind("p", "a"))
		holds(t, d, "snap-3", frames("p"), "log-4", frames("a"))

		d = with(t, n, frames("other"))
		j = opens(t, d, alone())
		holds(t, d)
		must(t, j.Compact("p"))
		holds(t, d, "snap-1", frames("p"))
	}
}

// P3.1, C1: numbers of too many digits are no names of a device, so nothing is added or compacted to them.
func TestTooManyDigits(t *testing.T) {
	d := device.New(1 << 20)
	want(t, "a log", d.Append("log-10000000000000000", nil), api.ErrArg)
	want(t, "a picture", d.Append("snap-1000000000000000", nil), api.ErrArg)

	d = with(t, "log-9999999999999999", frames("a"))
	j := opens(t, d, alone("a"))
	for range 2 {
		want(t, "the log behind the last", j.Add("b"), api.ErrArg)
		want(t, "its picture", j.Compact("p"), api.ErrArg)
	}
	holds(t, d, "log-9999999999999999", frames("a"))
	if d.Acts() != 1 {
		t.Error("acts", d.Acts())
	}

	d = with(t, "snap-999999999999999", frames("p"))
	j = opens(t, d, behind("p"))
	want(t, "a picture behind the last", j.Compact("q"), api.ErrArg)
	must(t, j.Add("a"))
	want(t, "a picture behind that", j.Compact("q"), api.ErrArg)
	must(t, j.Add("b"))
	opens(t, d, behind("p", "a", "b"))
}

// P3.1, C1: the others are removed by rising names, then there is a Sync; at
// the first error there is no journal, and a crash brings back what was removed.
func TestOpenActs(t *testing.T) {
	all := []string{"0", "", "log-10", frames("b"), "log-2", frames("old"), "log-3", frames("older"), "log-9", frames("a"), "m", "x", "snap-3", frames("p"), "snap-30", "none", "z", ""}
	removed := []string{"0", "log-2", "log-3", "m", "snap-30", "z"}
	for fuse := range len(removed) + 2 {
		d := with(t, all...)
		names := d.Names()
		d.Fuse(fuse)
		j, picture, has, recs, e := journal.Open(d)
		if fuse == len(removed)+1 {
			must(t, e)
			d.Crash(nil)
			holds(t, d, "log-10", frames("b"), "log-9", frames("a"), "snap-3", frames("p"))
			continue
		}
		if j != nil || picture != "" || has || len(recs) != 0 || e != api.ErrDown {
			t.Error(fuse, j, picture, has, recs, e)
		}
		left := slices.DeleteFunc(names, func(n string) bool { return slices.Contains(removed[:fuse], n) })
		if !slices.Equal(d.Names(), left) || d.Acts() != fuse {
			t.Errorf("%d: left %q, want %q", fuse, d.Names(), left)
		}
		d.Crash(nil)
		holds(t, d, all...)
		opens(t, d, behind("p", "a", "b"))
	}
}

// P3.1, C1: the Sync has stay what was there, though it was not synced.
func TestOpenSyncs(t *testing.T) {
	d := device.New(999)
	must(t, d.Append("log-1", []byte(frames("a", "b"))))
	opens(t, d, alone("a", "b"))
	d.Crash(nil)
	opens(t, d, alone("a", "b"))
}

// P3.1, C1: without power there is nothing; with a fuse at its end it is there up to the first act.
func TestOpenDown(t *testing.T) {
	for _, d := range []*device.Device{device.New(9), with(t, "snap-1", frames("p"), "log-2", frames("a")), with(t, "x", "")} {
		names := d.Names()
		d.Fuse(0)
		for range 2 {
			j, picture, has, recs, e := journal.Open(d)
			if j != nil || picture != "" || has || len(recs) != 0 || e != api.ErrDown || !d.Down() {
				t.Error(j, picture, has, recs, e)
			}
		}
		if d.Acts() != 0 || !slices.Equal(d.Names(), names) {
			t.Error(d.Acts(), d.Names())
		}
	}
}

// P3.1, C2, and the example: records go to one log, as long as it has at most 1024 bytes with them.
func TestAdd(t *testing.T) {
	d := device.New(1 << 20)
	j := opens(t, d, alone())
	must(t, j.Add("a"))
	must(t, j.Add("b"))
	holds(t, d, "log-1", frames("a", "b"))
	if d.Acts() != 3 {
		t.Error("no Sync within a log", d.Acts())
	}
	// 12 bytes are there, and 5 are ahead of a record: 1007 more are just 1024, 1008 are one too many.
	must(t, j.Add(long(1007)))
	holds(t, d, "log-1", frames("a", "b", long(1007)))
	must(t, j.Add(""))
	holds(t, d, "log-1", frames("a", "b", long(1007)), "log-2", frames(""))
	if d.Acts() != 6 {
		t.Error("one Sync, and one Append", d.Acts())
	}
	must(t, j.Add(long(1015)))
	holds(t, d, "log-1", frames("a", "b", long(1007)), "log-2", frames(""), "log-3", frames(long(1015)))
	d.Crash(nil)
	holds(t, d, "log-1", frames("a", "b", long(1007)), "log-2", frames(""))
}

// P3.1, C2: where the next record goes behind a first one: 1024 bytes are a log's, 1025 are not.
func TestAddBounds(t *testing.T) {
	for _, c := range []struct {
		first, second int
		one           bool
	}{
		{0, 1014, true}, {0, 1015, false}, {1014, 0, true}, {1015, 0, false}, {500, 514, true}, {500, 515, false}, {0, 4096, false},
		{1018, 0, false}, {1019, 0, false}, {1020, 0, false}, {1024, 0, false}, {4096, 0, false}, {4096, 4096, false},
	} {
		d := device.New(1 << 20)
		j := opens(t, d, alone())
		a, b := long(c.first), strings.Repeat("y", c.second)
		must(t, j.Add(a))
		must(t, j.Add(b))
		if c.one {
			holds(t, d, "log-1", frames(a, b))
		} else {
			holds(t, d, "log-1", frames(a), "log-2", frames(b))
		}
		must(t, j.Add(long(1014)))
		opens(t, d, alone(a, b, long(1014)))
	}
}

// P3.1, C2: a record of 4096 bytes stands alone in its log; one of 4097 is refused ahead of all else.
func TestAddLong(t *testing.T) {
	d := device.New(1 << 20)
	j := opens(t, d, alone())
	must(t, j.Add(long(4096)))
	must(t, j.Add("a"))
	must(t, j.Add(long(4096)))
	must(t, j.Add(""))
	holds(t, d, "log-1", frames(long(4096)), "log-2", frames("a"), "log-3", frames(long(4096)), "log-4", frames(""))
	acts := d.Acts()
	d.Fuse(0)
	for _, rec := range []string{long(4097), strings.Repeat("é", 2049), long(1 << 20)} {
		want(t, "too long", j.Add(rec), api.ErrArg)
	}
	if d.Acts() != acts || d.Down() {
		t.Error("an act was tried")
	}
	want(t, "not too long", j.Add("b"), api.ErrDown)
	want(t, "too long, and down", j.Add(long(4097)), api.ErrArg)
	d.Crash([]api.Kept{{Name: "log-4", Many: 9}})
	must(t, j.Add(strings.Repeat("é", 2048)))
	holds(t, d, "log-1", frames(long(4096)), "log-2", frames("a"), "log-3", frames(long(4096)), "log-4", frames(""), "log-5", frames(strings.Repeat("é", 2048)))
}

// P3.1, C2: a log's bytes are those that its file has, whoever put them there.
func TestAddBytesOfFile(t *testing.T) {
	d := device.New(1 << 20)
	j := opens(t, d, alone())
	must(t, j.Add("a"))
	must(t, d.Append("log-1", make([]byte, 1012)))
	must(t, j.Add("b"))
	must(t, j.Add("c"))
	holds(t, d, "log-1", frames("a")+string(make([]byte, 1012))+frames("b"), "log-2", frames("c"))
	must(t, d.Remove("log-2"))
	must(t, j.Add("d"))
	holds(t, d, "log-1", frames("a")+string(make([]byte, 1012))+frames("b"), "log-2", frames("d"))
}

// P3.1, C2: without power nothing is added; the first act that fails ends it,
// and the journal is then as it was.
func TestAddFuse(t *testing.T) {
	for _, c := range []struct {
		what  string
		recs  []string // those that are there
		rec   string
		acts  int
		after []string // behind a crash, and one more record
	}{
		{"a new log", nil, "a", 1, []string{"log-1", frames("+")}},
		{"the same log", []string{"a"}, "b", 1, []string{"log-1", frames("a", "+")}},
		{"the next log", []string{"a"}, long(1019), 2, []string{"log-1", frames("a", "+")}},
	} {
		for fuse := range c.acts {
			d := device.New(1 << 20)
			j := opens(t, d, alone())
			for _, r := range c.recs {
				must(t, j.Add(r))
			}
			acts := d.Acts()
			d.Fuse(fuse)
			want(t, c.what, j.Add(c.rec), api.ErrDown)
			want(t, "down", j.Add(c.rec), api.ErrDown)
			if d.Acts() != acts+fuse {
				t.Error(c.what, fuse, d.Acts())
			}
			d.Crash([]api.Kept{{Name: "log-1", Many: 9999}})
			must(t, j.Add("+"))
			holds(t, d, c.after...)
		}
	}
}

// P3.1, C2: the device's errors: no room, and too many files; then a shorter record goes where it would have gone.
func TestAddFull(t *testing.T) {
	d := device.New(20)
	j := opens(t, d, alone())
	want(t, "no room", j.Add(long(16)), api.ErrFull)
	must(t, j.Add("a"))
	want(t, "no room in the log", j.Add(long(10)), api.ErrFull)
	acts := d.Acts()
	want(t, "no room in the next one", j.Add(long(1020)), api.ErrFull)
	if d.Acts() != acts+1 {
		t.Error("a Sync ahead of it", d.Acts()-acts)
	}
	must(t, j.Add(long(9)))
	holds(t, d, "log-1", frames("a", long(9)))
	want(t, "just full", j.Add(""), api.ErrFull)
	d.Crash(nil)
	holds(t, d, "log-1", frames("a"))

	d = device.New(1 << 20)
	j = opens(t, d, alone())
	var all []string
	for range api.MaxFiles {
		must(t, j.Add(long(1000)))
		all = append(all, long(1000))
	}
	for range 2 {
		want(t, "64 logs", j.Add(long(1000)), api.ErrTooMany)
		want(t, "64 logs, and a picture", j.Compact("p"), api.ErrTooMany)
	}
	must(t, j.Add(long(4)))
	all = append(all, long(4))
	opens(t, d, alone(all...))
}

// P3.1, C3: Sync is the device's, with its error.
func TestSync(t *testing.T) {
	d := device.New(99)
	j := opens(t, d, alone())
	must(t, j.Add("a"))
	must(t, j.Sync())
	must(t, j.Add("b"))
	if d.Acts() != 4 {
		t.Error(d.Acts())
	}
	d.Fuse(0)
	want(t, "down", j.Sync(), api.ErrDown)
	want(t, "still down", j.Sync(), api.ErrDown)
	d.Crash(nil)
	holds(t, d, "log-1", frames("a"))
	must(t, j.Sync())
	must(t, j.Add("c"))
	holds(t, d, "log-1", frames("a", "c"))
}

// P3.1, C3: a picture has the next number, all other files go, and a new log follows.
func TestCompact(t *testing.T) {
	d := device.New(1 << 20)
	j := opens(t, d, alone())
	must(t, j.Compact(""))
	holds(t, d, "snap-1", frames(""))
	must(t, j.Compact("p"))
	holds(t, d, "snap-2", frames("p"))
	must(t, j.Add("a"))
	holds(t, d, "snap-2", frames("p"), "log-3", frames("a"))
	must(t, j.Add(long(1020)))
	must(t, d.Append("other", nil))
	must(t, d.Append("snap-1", []byte(frames("old"))))
	must(t, d.Append("snap-9", []byte("none")))
	acts := d.Acts()
	must(t, j.Compact("q"))
	if d.Acts() != acts+1+1+6+1 {
		t.Error(d.Acts() - acts)
	}
	holds(t, d, "snap-5", frames("q"))
	d.Crash(nil)
	holds(t, d, "snap-5", frames("q"))
	j = opens(t, d, behind("q"))
	must(t, j.Add("b"))
	must(t, j.Compact("r"))
	must(t, j.Add("c"))
	holds(t, d, "snap-7", frames("r"), "log-8", frames("c"))
}

// P3.1, C3: a picture of 4096 bytes, and one of 4097, which is refused ahead of all else.
func TestCompactLong(t *testing.T) {
	d := device.New(1 << 20)
	j := opens(t, d, alone())
	must(t, j.Add("a"))
	d.Fuse(0)
	acts := d.Acts()
	for _, p := range []string{long(4097), strings.Repeat("é", 2049), long(1 << 20)} {
		want(t, "too long", j.Compact(p), api.ErrArg)
	}
	if d.Acts() != acts || d.Down() {
		t.Error("an act was tried")
	}
	d.Fuse(-1)
	must(t, j.Add("b"))
	holds(t, d, "log-1", frames("a", "b"))
	must(t, j.Compact(long(4096)))
	holds(t, d, "snap-2", frames(long(4096)))
	opens(t, d, behind(long(4096)))
	d.Fuse(0)
	want(t, "down", j.Compact("p"), api.ErrDown)
	want(t, "too long, and down", j.Compact(long(4097)), api.ErrArg)
}

// P3.1, C3: the acts in their order, up to the first error: the picture, Sync,
// the others by rising names, Sync. Behind the first Sync the picture's number
// is the last, and no log is written, whatever comes of the rest.
func TestCompactFuse(t *testing.T) {
	others := []string{"a", "log-1", "log-2", "snap-1"}
	for fuse := range 1 + 1 + len(others) + 1 {
		d := device.New(1 << 20)
		j := opens(t, d, alone())
		must(t, j.Add(long(1019)))
		must(t, j.Add("b"))
		must(t, d.Append("snap-1", nil))
		must(t, d.Append("a", nil))
		must(t, d.Sync())
		acts := d.Acts()
		d.Fuse(fuse)
		want(t, strconv.Itoa(fuse), j.Compact("p"), api.ErrDown)
		left := others[min(max(fuse-2, 0), len(others)):]
		if fuse > 0 {
			left = append(slices.Clone(left), "snap-3")
		}
		if !slices.Equal(d.Names(), left) || d.Acts() != acts+fuse {
			t.Errorf("%d: left %q, want %q", fuse, d.Names(), left)
		}
		d.Crash(nil)
		must(t, j.Add("c"))
		all := []string{"a", "", "snap-1", "", "log-1", frames(long(1019))}
		if fuse < 2 {
			holds(t, d, append(all, "log-2", frames("b", "c"))...)
			opens(t, d, alone(long(1019), "b", "c"))
			continue
		}
		holds(t, d, append(all, "log-2", frames("b"), "snap-3", frames("p"), "log-4", frames("c"))...)
		opens(t, d, behind("p", "c"))
	}
}

// P3.1, C3: the device's errors: no room, and too many files; nothing is changed then.
func TestCompactFull(t *testing.T) {
	d := device.New(20)
	j := opens(t, d, alone())
	must(t, j.Add("a"))
	for range 2 {
		want(t, "no room", j.Compact(long(10)), api.ErrFull)
	}
	if d.Acts() != 2 {
		t.Error(d.Acts())
	}
	must(t, j.Add("b"))
	holds(t, d, "log-1", frames("a", "b"))
	want(t, "no room any more", j.Compact(long(4)), api.ErrFull)
	must(t, j.Compact("ppp"))
	holds(t, d, "snap-2", frames("ppp"))
	must(t, j.Compact("qqq"))
	holds(t, d, "snap-3", frames("qqq"))

	d = with(t)
	j = opens(t, d, alone())
	for i := range api.MaxFiles {
		must(t, d.Append("x-"+strconv.Itoa(i), nil))
	}
	want(t, "a picture of 65 files", j.Compact("p"), api.ErrTooMany)
	want(t, "a log of 65 files", j.Add("a"), api.ErrTooMany)
	must(t, d.Remove("x-0"))
	must(t, j.Compact("p"))
	holds(t, d, "snap-1", frames("p"))
}
