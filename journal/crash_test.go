package journal_test

import (
	"slices"
	"testing"

	"augury/api"
	"augury/device"
	"augury/journal"
)

// call is one of a journal: kind is 'a' (Add), 's' (Sync) or 'c' (Compact).
type call struct {
	kind byte
	text string
}

func (c call) do(j *journal.Journal) api.Errno {
	switch c.kind {
	case 'a':
		return j.Add(c.text)
	case 'c':
		return j.Compact(c.text)
	}
	return j.Sync()
}

// sketch is a journal as the document tells it: the picture that was made last,
// the records that were added since, how many of these were synced, how many
// bytes the log has that is written, and a picture that was put, but not synced.
type sketch struct {
	made   found
	synced int
	size   int
	put    *found
}

// opened is the sketch of what was opened.
func opened(f found) *sketch { return &sketch{made: f, synced: len(f.recs)} }

// did is what comes of a call of which so many acts were done.
func (s *sketch) did(c call, acts int) {
	switch {
	case c.kind == 'a':
		s.added(c.text, acts)
	case c.kind == 's' && acts > 0:
		s.synced = len(s.made.recs)
	case c.kind == 'c' && acts > 1:
		*s = sketch{made: behind(c.text)}
	case c.kind == 'c' && acts == 1:
		f := behind(c.text)
		s.put = &f
	}
}

func (s *sketch) added(rec string, acts int) {
	n := len(rec) + 5
	if s.size > 0 && s.size+n > 1024 {
		if acts > 0 {
			s.synced = len(s.made.recs)
		}
		acts--
		n -= s.size
	}
	if acts > 0 {
		s.made.recs = append(slices.Clip(s.made.recs), rec)
		s.size += n
	}
}

// left is what is there of the last picture with so many of its records.
func (s *sketch) left(n int) found { return found{s.made.picture, s.made.has, s.made.recs[:n]} }

// may tells whether this may be found behind a crash, whatever that keeps.
func (s *sketch) may(f found) bool {
	n := len(f.recs)
	return s.put != nil && f.is(*s.put) || n >= s.synced && n <= len(s.made.recs) && f.is(s.left(n))
}

// nothing keeps no byte that was not synced, and all keeps each.
func nothing(*device.Device) []api.Kept { return nil }

func all(d *device.Device) []api.Kept {
	var l []api.Kept
	for _, n := range d.Names() {
		l = append(l, api.Kept{Name: n, Many: api.MaxFile})
	}
	return l
}

// play does calls, until the power goes; whether it did is told.
func play(t *testing.T, d *device.Device, j *journal.Journal, s *sketch, calls []call) bool {
	t.Helper()
	for _, c := range calls {
		acts := d.Acts()
		e := c.do(j)
		s.did(c, d.Acts()-acts)
		if e == api.ErrDown {
			return true
		}
		must(t, e)
	}
	return false
}

// reopen opens a device behind a crash, with crashes behind every act of Open ahead of it.
func reopen(t *testing.T, d *device.Device, keep func(*device.Device) []api.Kept) (*journal.Journal, found) {
	t.Helper()
	for fuse := 0; ; fuse++ {
		d.Crash(keep(d))
		d.Fuse(fuse)
		j, picture, has, recs, e := journal.Open(d)
		if e == api.OK {
			d.Fuse(-1)
			return j, found{picture, has, recs}
		}
		want(t, "open", e, api.ErrDown)
	}
}

// scripts are some of all sorts: within a log, over logs, pictures behind one another.
func scripts() [][]call {
	big, top := long(700), long(4096)
	return [][]call{
		{{'a', "a"}, {'a', "b"}, {'s', ""}, {'a', "c"}, {'a', ""}},
		{{'a', "a"}, {'a', big}, {'a', big}, {'a', "b"}, {'s', ""}, {'a', big}, {'a', top}, {'a', "c"}},
		{{'c', "p"}, {'a', "a"}, {'c', "q"}, {'c', ""}, {'a', "b"}, {'a', "c"}},
		{{'a', "a"}, {'c', "p"}, {'a', "b"}, {'a', "c"}, {'s', ""}, {'a', "d"}, {'c', "q"}, {'a', "e"}},
		{{'a', big}, {'a', big}, {'a', big}, {'c', top}, {'a', big}, {'a', big}, {'s', ""}, {'a', "x"}, {'c', big}, {'a', top}, {'a', top}},
	}
}

// starts are devices of all sorts, as files: names and bytes in turn.
func starts() [][]string {
	return [][]string{
		nil,
		{"log-1", frames("x") + "R", "other", ""},
		{"log-1", frames("x"), "log-2", frames("y", "z"), "log-10", ""},
		{"snap-4", frames("s"), "snap-2", frames("r"), "snap-6", "none", "log-3", frames("w"), "log-5", frames("x")},
	}
}

// P3.2: a crash behind every act of Add, Sync and Compact, and of the Open
// behind it, with nothing and with all kept: just what the acts had come to.
func TestCrashBehindEveryAct(t *testing.T) {
	for _, start := range starts() {
		for _, script := range scripts() {
			for fuse, went := 0, true; went; fuse++ {
				d := with(t, start...)
				j, f := open(t, d)
				s := opened(f)
				d.Fuse(fuse)
				went = play(t, d, j, s, script)
				_, f = reopen(t, d, nothing)
				if !f.is(s.left(s.synced)) {
					t.Errorf("fuse %d, nothing kept: %v of %v", fuse, f, s.made)
				}

				d = with(t, start...)
				j, f = open(t, d)
				s = opened(f)
				d.Fuse(fuse)
				play(t, d, j, s, script)
				most := s.left(len(s.made.recs))
				if s.put != nil {
					most = *s.put
				}
				if _, f = reopen(t, d, all); !f.is(most) {
					t.Errorf("fuse %d, all kept: %v of %v", fuse, f, most)
				}
			}
		}
	}
}

// P3.2: a crash behind every act of the first Open changes nothing that is found.
func TestCrashInOpen(t *testing.T) {
	for _, start := range starts() {
		for _, keep := range []func(*device.Device) []api.Kept{nothing, all} {
			_, f := open(t, with(t, start...))
			if _, got := reopen(t, with(t, start...), keep); !got.is(f) {
				t.Errorf("%v, want %v", got, f)
			}
		}
	}
}

// P3.2: torn anywhere: a log's last records, as many as are whole; a picture, if it is.
func TestCrashTorn(t *testing.T) {
	whole := len(frames("one", "two"))
	for n := range whole + 2 {
		d := device.New(99)
		j := opens(t, d, alone())
		must(t, j.Add("one"))
		must(t, j.Add("two"))
		d.Crash([]api.Kept{{Name: "log-1", Many: n}})
		f := alone([]string{"one", "two"}[:min(n/8, 2)]...)
		j = opens(t, d, f)
		must(t, j.Add("more"))
		opens(t, d, alone(append(f.recs, "more")...))
	}
	for n := range len(frames("picture")) + 2 {
		d := with(t, "log-1", frames("a", "b"))
		j := opens(t, d, alone("a", "b"))
		d.Fuse(1)
		want(t, "a Sync without power", j.Compact("picture"), api.ErrDown)
		d.Crash([]api.Kept{{Name: "snap-2", Many: n}})
		if n < len(frames("picture")) {
			opens(t, d, alone("a", "b"))
			holds(t, d, "log-1", frames("a", "b"))
			continue
		}
		opens(t, d, behind("picture"))
		holds(t, d, "snap-2", frames("picture"))
	}
}

// P3.2: a log is synced ahead of the next one, so no record is lost ahead of one that is kept.
func TestCrashNextLogKept(t *testing.T) {
	d := device.New(1 << 20)
	j := opens(t, d, alone())
	for _, rec := range []string{"a", "b", long(1019), "c", "d"} {
		must(t, j.Add(rec))
	}
	d.Crash([]api.Kept{{Name: "log-3", Many: api.MaxFile}})
	opens(t, d, alone("a", "b", long(1019), "c", "d"))
}

// dice are numbers that look like chance, from a start on.
func dice(start uint64) func(n int) int {
	s := start
	return func(n int) int {
		s = s*6364136223846793005 + 1442695040888963407
		return int(s >> 33 % uint64(n))
	}
}

// some are calls by dice.
func some(roll func(int) int) []call {
	var l []call
	for range roll(12) {
		text := long([]int{0, 1, 3, 200, 500, 1010, 1019, 1020, 4096}[roll(9)])
		if text != "" {
			text = string(rune('a'+roll(26))) + text[1:]
		}
		l = append(l, call{"aaaaaasc"[roll(8)], text})
	}
	return l
}

// torn keeps some bytes of some files, by dice.
func torn(roll func(int) int) func(d *device.Device) []api.Kept {
	return func(d *device.Device) []api.Kept {
		var l []api.Kept
		for _, n := range d.Names() {
			l = append(l, api.Kept{Name: n, Many: []int{-1, 0, 1, 4, 5, roll(1100), api.MaxFile}[roll(7)]})
		}
		return l
	}
}

// P3.2 and P3.3: calls, crashes that keep anything, crashes within Open, and
// calls again: what is found is what may be, and is what is gone on from.
func TestCrashesInRow(t *testing.T) {
	for seed := range 300 {
		roll := dice(uint64(seed))
		d := device.New(1 << 20)
		j := opens(t, d, alone())
		s := opened(alone())
		for range 8 {
			if len(d.Names()) > 40 {
				must(t, j.Compact("all"))
				s.did(call{'c', "all"}, 99)
			}
			d.Fuse(roll(20))
			play(t, d, j, s, some(roll))
			var f found
			if j, f = reopen(t, d, torn(roll)); !s.may(f) {
				t.Fatalf("seed %d: %v of %v, %d synced, put %v", seed, f, s.made, s.synced, s.put)
			}
			s = opened(f)
		}
	}
}

// P3.3: what was opened is opened alike again, with nothing changed but that it
// is synced; what is added then is behind its records, however often it is opened.
func TestOpenAgain(t *testing.T) {
	for _, start := range starts() {
		d := with(t, start...)
		j, f := open(t, d)
		was := files(t, d)
		for range 3 {
			acts := d.Acts()
			j = opens(t, d, f)
			if d.Acts() != acts+1 || len(files(t, d)) != len(was) {
				t.Error(d.Names())
			}
		}
		for i, rec := range []string{"one", long(1019), "", long(4096), "two"} {
			must(t, j.Add(rec))
			f.recs = append(f.recs, rec)
			if i%2 == 0 {
				j = opens(t, d, f)
			}
		}
		opens(t, d, f)
		d.Crash(nil)
		j = opens(t, d, f)
		must(t, j.Compact("p"))
		j = opens(t, d, behind("p"))
		must(t, j.Add("three"))
		opens(t, d, behind("p", "three"))
	}
}

// P3.3: nothing is put behind a torn end.
func TestAddBehindTorn(t *testing.T) {
	for _, end := range []string{"R", "R\x00", frames("lost")[:8], "x", frames("a") + "R"} {
		d := with(t, "log-3", frames("a")+end)
		j, f := open(t, d)
		must(t, j.Add("b"))
		must(t, j.Add("c"))
		opens(t, d, alone(append(f.recs, "b", "c")...))
		holds(t, d, "log-3", frames("a")+end, "log-4", frames("b", "c"))
	}
}
