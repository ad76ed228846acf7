package journal_test

import (
	"math"
	"slices"
	"strings"
	"testing"

	"augury/api"
	"augury/device"
	"augury/journal"
)

// P1: calls end, and none panics, whatever files there are, and whatever the room and the fuse.
func TestAnyDevice(t *testing.T) {
	roll := dice(5)
	heads := []string{"log-", "snap-", "log", "snap", "", "-", "l", "log-0", "snap-0"}
	tails := []string{"", "0", "1", "2", "3", "12", "01", "-1", "9999999999999999", "999999999999999", "9223372036854775", "a", "1-"}
	parts := []string{"", "R", frames(""), frames("a"), frames("b", "c"), "R\x00\x00\x01", "\xff", frames(long(4096)), "R\x10\x01\x00\x00"}
	for range 3000 {
		var l []api.Log
		for range roll(7) {
			name := heads[roll(len(heads))] + tails[roll(len(tails))]
			l = append(l, api.Log{Name: name, Data: []byte(parts[roll(len(parts))] + parts[roll(len(parts))])})
		}
		d := device.Of([]int{math.MinInt, -1, 0, 9, 5000, math.MaxInt}[roll(6)], l)
		if d == nil {
			continue
		}
		d.Fuse(roll(9) - 1)
		j, picture, has, recs, e := journal.Open(d)
		if e != api.OK {
			nothingElse(t, j, picture, has, recs)
			continue
		}
		for _, text := range []string{"", "a", long(1019), long(4096), long(4097)} {
			j.Add(text)
			j.Sync()
			j.Compact(text)
			j.Add(text)
		}
		d.Crash(nil)
		open(t, d)
	}
}

// nothingElse fails the test unless what stands beside an error is zero.
func nothingElse(t *testing.T, j *journal.Journal, picture string, has bool, recs []string) {
	t.Helper()
	if j != nil || picture != "" || has || len(recs) != 0 {
		t.Error("beside an error:", j, picture, has, len(recs))
	}
}

// P2: beside an error of Open all is zero, though there are a picture and records.
func TestErrorAlone(t *testing.T) {
	for fuse := range 2 {
		d := with(t, "snap-1", frames("p"), "log-2", frames("a"), "x", "")
		d.Fuse(fuse)
		j, picture, has, recs, e := journal.Open(d)
		nothingElse(t, j, picture, has, recs)
		want(t, "open", e, api.ErrDown)
	}
}

// P2: of several errors the one that is named first.
func TestFirstError(t *testing.T) {
	d := device.New(0)
	j := opens(t, d, alone())
	want(t, "too long, full", j.Add(long(4097)), api.ErrArg)
	want(t, "full", j.Add(""), api.ErrFull)
	want(t, "too long, full", j.Compact(long(4097)), api.ErrArg)
	want(t, "full", j.Compact(""), api.ErrFull)
	d.Fuse(0)
	want(t, "too long, down", j.Compact(long(4097)), api.ErrArg)
	want(t, "full, down", j.Compact(""), api.ErrDown)
	want(t, "too long, down", j.Add(long(4097)), api.ErrArg)
	want(t, "full, down", j.Add(""), api.ErrDown)
}

// P2: a call that was refused changed nothing of what is answered then.
func TestRefused(t *testing.T) {
	d, other := device.New(3000), device.New(3000)
	j, k := opens(t, d, alone()), opens(t, other, alone())
	for _, rec := range []string{"a", long(900), "b", long(1000), "c", long(100)} {
		must(t, j.Add(rec))
		want(t, "long", j.Add(long(4097)), api.ErrArg)
		want(t, "long", j.Compact(long(5000)), api.ErrArg)
		want(t, "full", j.Add(long(3000)), api.ErrFull)
		want(t, "full", j.Compact(long(3000)), api.ErrFull)
		must(t, k.Add(rec))
	}
	var l []string
	for n, b := range files(t, other) {
		l = append(l, n, b)
	}
	holds(t, d, l...)
}

// P3: what comes out is new memory, its spare room too, and nothing of it is kept.
func TestComesOut(t *testing.T) {
	d := with(t, "snap-1", frames("p"), "log-2", frames("a", "b", "c"), "log-3", frames("d"))
	j, f := open(t, d)
	_, g := open(t, d)
	spoilt := f.recs[:cap(f.recs)]
	for i := range spoilt {
		spoilt[i] = "-"
	}
	if !g.is(behind("p", "a", "b", "c", "d")) {
		t.Error(g)
	}
	must(t, j.Add("e"))
	opens(t, d, behind("p", "a", "b", "c", "d", "e"))
	if spoilt[0] != "-" || !slices.Equal(g.recs, []string{"a", "b", "c", "d"}) {
		t.Errorf("%q %q", spoilt, g.recs)
	}
}

// P3: records are of bytes, whatever these are, and are not looked into.
func TestAnyRecord(t *testing.T) {
	recs := []string{"", "\x00", "\xff\xfe", "R", frames("inner"), frames("inner")[:7], "é\n", strings.Repeat("R", 1019), "log-1"}
	d := device.New(1 << 20)
	j := opens(t, d, alone())
	for _, r := range recs {
		must(t, j.Add(r))
	}
	opens(t, d, alone(recs...))
	for _, r := range recs {
		must(t, j.Compact(r))
		j = opens(t, d, behind(r))
		must(t, j.Add(r))
		j = opens(t, d, behind(r, r))
	}
}

// P3: journals of two devices do not touch one another, and answer the same.
func TestApart(t *testing.T) {
	d, other := device.New(9999), device.New(9999)
	j, k := opens(t, d, alone()), opens(t, other, alone())
	for _, c := range []call{{'a', "a"}, {'a', long(1015)}, {'c', "p"}, {'a', "b"}, {'s', ""}} {
		names, used := other.Names(), other.Used()
		must(t, c.do(j))
		if !slices.Equal(other.Names(), names) || other.Used() != used {
			t.Error("touched:", other.Names())
		}
		must(t, c.do(k))
		if d.Acts() != other.Acts() || !slices.Equal(d.Names(), other.Names()) {
			t.Error(d.Names(), other.Names())
		}
	}
}
