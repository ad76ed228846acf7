package device_test

import (
	"maps"
	"math"
	"slices"
	"strconv"
	"strings"
	"testing"

	"augury/api"
	"augury/device"
)

// P1.1, A5, and P1.2: how much is kept of a file that was there: the example,
// and below 0, too much, and of a name twice.
func TestCrashKeeps(t *testing.T) {
	for i, c := range []struct {
		keep []api.Kept
		want string
	}{
		{nil, "ab"},
		{[]api.Kept{{Name: "b", Many: 9}}, "ab"},
		{[]api.Kept{{Name: "a", Many: 0}}, "ab"},
		{[]api.Kept{{Name: "a", Many: 1}}, "abc"},
		{[]api.Kept{{Name: "a", Many: 2}}, "abcd"},
		{[]api.Kept{{Name: "a", Many: 3}}, "abcd"},
		{[]api.Kept{{Name: "a", Many: math.MaxInt}}, "abcd"},
		{[]api.Kept{{Name: "a", Many: -1}}, "ab"},
		{[]api.Kept{{Name: "a", Many: math.MinInt}}, "ab"},
		{[]api.Kept{{Name: "a", Many: 1}, {Name: "a", Many: 2}}, "abc"},
		{[]api.Kept{{Name: "a", Many: -1}, {Name: "a", Many: 2}}, "ab"},
		{[]api.Kept{{Name: "A", Many: 2}, {Name: "", Many: 2}, {Name: "a", Many: 1}}, "abc"},
	} {
		d := device.New(9)
		must(t, d.Append("a", []byte("ab")))
		must(t, d.Sync())
		must(t, d.Append("a", []byte("cd")))
		d.Crash(c.keep)
		if b, e := d.Read("a"); string(b) != c.want || e != api.OK || len(d.Names()) != 1 {
			t.Errorf("%d: %q %d %q", i, b, e, d.Names())
		}
	}
}

// P1.1, A5: a file that was not there at the last Sync is there if keep says 0 or more.
func TestCrashNewFile(t *testing.T) {
	for i, c := range []struct {
		keep []api.Kept
		want []string
	}{
		{nil, nil},
		{[]api.Kept{{Name: "b", Many: 2}}, nil},
		{[]api.Kept{{Name: "a", Many: -1}}, nil},
		{[]api.Kept{{Name: "a", Many: -1}, {Name: "a", Many: 2}}, nil},
		{[]api.Kept{{Name: "a", Many: 0}}, []string{"a", ""}},
		{[]api.Kept{{Name: "a", Many: 0}, {Name: "a", Many: -1}}, []string{"a", ""}},
		{[]api.Kept{{Name: "a", Many: 1}}, []string{"a", "x"}},
		{[]api.Kept{{Name: "a", Many: 9}}, []string{"a", "xy"}},
	} {
		t.Run(strconv.Itoa(i), func(t *testing.T) {
			d := device.New(9)
			must(t, d.Sync())
			must(t, d.Append("a", []byte("xy")))
			d.Crash(c.keep)
			holds(t, d, c.want...)
		})
	}
}

// P1.1, A5: an empty file that was synced stays; one that was not, and is not kept, does not.
func TestCrashEmptyFiles(t *testing.T) {
	d := device.New(9)
	must(t, d.Append("a", nil))
	must(t, d.Sync())
	must(t, d.Append("b", nil))
	must(t, d.Append("c", nil))
	d.Crash([]api.Kept{{Name: "a", Many: -1}, {Name: "c", Many: 0}})
	holds(t, d, "a", "", "c", "")
}

// P1.1, A5: what was removed since the last Sync is there again, as it was
// synced, whether or not there is another one of its name.
func TestCrashRemoved(t *testing.T) {
	d := device.New(99)
	for _, n := range []string{"a", "b", "c", "d"} {
		must(t, d.Append(n, []byte(n)))
	}
	must(t, d.Sync())
	for _, n := range []string{"a", "b", "c", "d"} {
		must(t, d.Append(n, []byte("+")))
		must(t, d.Remove(n))
	}
	must(t, d.Append("b", []byte("other")))
	must(t, d.Append("c", []byte("other")))
	must(t, d.Remove("c"))
	must(t, d.Append("e", []byte("new")))
	must(t, d.Remove("e"))
	d.Crash([]api.Kept{{Name: "a", Many: 9}, {Name: "b", Many: 9}, {Name: "c", Many: 9}, {Name: "d", Many: -1}, {Name: "e", Many: 9}})
	holds(t, d, "a", "a", "b", "b", "c", "c", "d", "d")
	must(t, d.Append("a", []byte("x")))
	holds(t, d, "a", "ax", "b", "b", "c", "c", "d", "d")
}

// P1.1, A5: behind a crash all is synced, what came back, and what was kept, too.
func TestCrashSyncs(t *testing.T) {
	d := device.Of(99, []api.Log{{Name: "a", Data: []byte("a")}, {Name: "b", Data: []byte("b")}})
	must(t, d.Append("b", []byte("bb")))
	must(t, d.Append("c", []byte("cc")))
	must(t, d.Remove("a"))
	d.Crash([]api.Kept{{Name: "b", Many: 1}, {Name: "c", Many: 1}})
	holds(t, d, "a", "a", "b", "bb", "c", "c")
	d.Crash(nil)
	holds(t, d, "a", "a", "b", "bb", "c", "c")
	must(t, d.Remove("c"))
	must(t, d.Append("a", []byte("+")))
	must(t, d.Append("b", []byte("+")))
	d.Crash([]api.Kept{{Name: "a", Many: 1}})
	holds(t, d, "a", "a+", "b", "bb", "c", "c")
}

// P1.1, A5: a crash may bring back more than MaxFiles, and more than the room.
func TestCrashOverBounds(t *testing.T) {
	d := device.Of(64, logs(api.MaxFiles))
	must(t, d.Remove("f-0"))
	must(t, d.Append("more", []byte("x")))
	d.Crash([]api.Kept{{Name: "more", Many: 1}})
	if len(d.Names()) != 65 || d.Used() != 65 {
		t.Error(len(d.Names()), d.Used())
	}
	want(t, "too many", d.Append("again", nil), api.ErrTooMany)
	want(t, "full", d.Append("more", nil), api.ErrFull)
	must(t, d.Remove("more"))
	want(t, "still too many", d.Append("again", nil), api.ErrTooMany)
	want(t, "fits", d.Append("f-1", nil), api.OK)
}

// sketch is a device as the document tells it: what was there at the last
// Sync, what is there now, and what of the first was removed.
type sketch struct {
	was  map[string]string
	now  map[string]string
	gone map[string]bool
}

func newSketch() *sketch {
	return &sketch{map[string]string{}, map[string]string{}, map[string]bool{}}
}

func (s *sketch) remove(name string) {
	delete(s.now, name)
	if _, ok := s.was[name]; ok {
		s.gone[name] = true
	}
}

func (s *sketch) sync() {
	s.was = maps.Clone(s.now)
	s.gone = map[string]bool{}
}

func (s *sketch) crash(keep []api.Kept) {
	left := map[string]string{}
	for name, data := range s.now {
		synced, old := s.was[name]
		many := -1
		if i := slices.IndexFunc(keep, func(k api.Kept) bool { return k.Name == name }); i >= 0 {
			many = keep[i].Many
		}
		if old || many >= 0 {
			left[name] = data[:min(len(data), len(synced)+max(many, 0))]
		}
	}
	for name := range s.gone {
		left[name] = s.was[name]
	}
	s.now = left
	s.sync()
}

// dice are numbers that look like thrown ones, the same ones each time.
type dice uint64

func (r *dice) below(n int) int {
	*r = *r*6364136223846793005 + 1442695040888963407
	return int(uint64(*r) >> 33 % uint64(n))
}

// stays fails the test unless behind a crash all is there that was synced, and
// behind it nothing but a beginning of what was put there.
func stays(t *testing.T, ahead *sketch, behind map[string]string) {
	t.Helper()
	for name, synced := range ahead.was {
		data, ok := behind[name]
		if !ok || !strings.HasPrefix(data, synced) {
			t.Fatalf("%s: %q was synced, there is %q", name, synced, data)
		}
		if ahead.gone[name] && data != synced {
			t.Fatalf("%s: %q came back as %q", name, synced, data)
		}
	}
	for name, data := range behind {
		if !ahead.gone[name] && !strings.HasPrefix(ahead.now[name], data) {
			t.Fatalf("%s: %q was put, there is %q", name, ahead.now[name], data)
		}
	}
}

// P1.2 (what stays): scripts of acts, with crashes anywhere, at any fuse.
func TestWhatStays(t *testing.T) {
	for seed := range 400 {
		r := dice(seed)
		d := device.New(200)
		s := newSketch()
		for step := range 120 {
			name := string(rune('a' + r.below(5)))
			switch k := r.below(12); {
			case k < 5:
				b := strconv.Itoa(step)
				if d.Append(name, []byte(b)) == api.OK {
					s.now[name] += b
				}
			case k < 8:
				if d.Remove(name) == api.OK {
					s.remove(name)
				}
			case k < 9:
				if d.Sync() == api.OK {
					s.sync()
				}
			case k < 10:
				d.Fuse(r.below(12) - 2)
			default:
				ahead := *s
				keep := anyKept(&r)
				d.Crash(keep)
				s.crash(keep)
				stays(t, &ahead, files(t, d))
			}
			if !d.Down() && !maps.Equal(files(t, d), s.now) {
				t.Fatalf("seed %d, step %d: %q, want %q", seed, step, files(t, d), s.now)
			}
		}
	}
}

// anyKept is what a crash may be told to keep, names twice and names of nothing among it.
func anyKept(r *dice) []api.Kept {
	var keep []api.Kept
	for range r.below(9) {
		keep = append(keep, api.Kept{Name: string(rune('a' + r.below(6))), Many: r.below(9) - 2})
	}
	return keep
}
