package timeline_test

import (
	"fmt"
	"slices"
	"testing"

	"augury/api"
	"augury/ledger"
	"augury/timeline"
	"augury/tree"
)

// alikeBooks tells whether two rows of matches are the same, event by event.
func alikeBooks(a, b []api.Match) bool {
	return len(a) == len(b) && told(a) == told(b) && fmt.Sprint(a) == fmt.Sprint(b)
}

// done are the matches that are done from one time on, up to another one.
func done(l []api.Match, from, to int64) []api.Match {
	var out []api.Match
	for _, m := range l {
		if m.Done >= from && m.Done <= to {
			out = append(out, m)
		}
	}
	return out
}

// P15.2: what is found is done while its version is in force, and that one finds it.
func TestInForce(t *testing.T) {
	r := dice(153)
	matches, many, dropped := 0, 0, 0
	for range 4000 {
		l, ev := r.versions(8), r.crowd(1+r.below(40))
		time := int64(r.below(45))
		got, _ := timeline.Book(world(), l, ev, time)
		rest := got
		for at, v := range l {
			var own []api.Match
			for len(rest) > 0 && timeline.At(l, rest[0].Done) == at {
				own, rest = append(own, rest[0]), rest[1:]
			}
			if v.Drop && len(own) > 0 {
				t.Fatalf("%v of %v: %s", l, ev, told(own))
			}
			alone, _ := timeline.Book(world(), []api.Version{{From: v.From, Query: v.Query}}, ev, time)
			if len(ledger.Minus(own, alone)) > 0 {
				t.Fatalf("%v of %v: %s is not found of %d", l, ev, told(own), at)
			}
			matches += len(own)
			if len(own) > 0 && len(own) < len(got) {
				many++
			}
			if v.Drop && len(alone) == 0 && v.From < time {
				dropped++
			}
		}
		if len(rest) > 0 {
			t.Fatalf("%v of %v: %s", l, ev, told(got))
		}
	}
	if min(matches, dropped) < 1000 || many < 500 {
		t.Error("too few", matches, many, dropped)
	}
	// Also what waits: it is done when its time is over, whoever is in force when it begins.
	l := versions(t, "2 a x then not c n within 3 | 4 b x then not c n within 2 | 6 drop | 7 a or b x then not c n within 1")
	ev := waves("a0 b0 a1 b1 a2 b2 a3 b3 a4 b4 a5 b5 a6 b6 a7 b7")
	if got, _ := timeline.Book(world(), l, ev, 90); told(got) != "3:a0/, 4:b2#5/, 5:b3#7/, 7:a6#12/, 7:b6#13/, 8:a7#14/, 8:b7#15/" {
		t.Error(told(got))
	}
}

// changed holds what versions find with one more against what they found, and against what it finds alone.
func changed(t *testing.T, l []api.Version, v api.Version, ev []api.Event, time int64) (ahead, behind, gone int) {
	t.Helper()
	n, e := timeline.Put(l, v)
	if e != api.OK {
		return 0, 0, 0
	}
	had, _ := timeline.Book(world(), l, ev, time)
	got, _ := timeline.Book(world(), n, ev, time)
	if a, b := done(had, 0, v.From-1), done(got, 0, v.From-1); !alikeBooks(a, b) {
		t.Fatalf("%v, then %v, of %v up to %d\n%s is not\n%s", l, v, ev, time, told(b), told(a))
	}
	var alone, own []api.Match
	if !v.Drop {
		alone, _ = timeline.Book(world(), []api.Version{v}, ev, time)
		all := slices.DeleteFunc(slices.Clone(ev), func(e api.Event) bool { return e.Ts < v.From-v.Query.Within })
		m, _ := ledger.Book(world(), v.Query, all, min(time, most))
		own = done(m, v.From, most)
	}
	late := done(got, v.From, most)
	if !alikeBooks(late, alone) || !alikeBooks(late, own) {
		t.Fatalf("%v, then %v, of %v up to %d\n%s is not\n%s", l, v, ev, time, told(late), told(own))
	}
	return len(got) - len(late), len(late), len(ledger.Minus(had, got))
}

// P15.3: a version that is put changes nothing that is done ahead of its From; behind that there is what it finds alone, of its own lookback.
func TestChange(t *testing.T) {
	r := dice(154)
	ahead, behind, gone, drops := 0, 0, 0, 0
	for range 6000 {
		l, ev := r.versions(7), r.crowd(1+r.below(30))
		v := r.version(int64(r.below(30)))
		if r.rarely(4) {
			v = drop(v.From)
		}
		a, b, g := changed(t, l, v, ev, int64(r.below(45)))
		ahead, behind, gone = ahead+a, behind+b, gone+g
		if v.Drop && g > 0 {
			drops++
		}
	}
	if min(ahead, behind, gone) < 1000 || drops < 100 {
		t.Error("too few", ahead, behind, gone, drops)
	}
}

// P15.3: at each time, of one more, and of a drop; also where one is degraded.
func TestChangeAtEachTime(t *testing.T) {
	l := versions(t, "1 a x+ then b y within 4 | 6 a x then not c n then b y? within 2 | 9 drop | 11 b x then b y within 9 by id pick next")
	ev := slices.Concat(events("a0.7 a1.7 b2.0.7 a3.8 b4.0.8 a5.7 b5#1.0.8 a7.7 c8.7 b8#1.0.7 a9.9 b10.0.9 b11.0.9 b12.0.9 a13.7 b14.0.7"), events("a4#1.7 a4#2.7 a4#3.7 a4#4.7 a4#5.7 a4#6.7 a4#7.7"))
	ahead, behind, gone := 0, 0, 0
	for from := int64(0); from < 18; from++ {
		for time := int64(0); time < 20; time++ {
			for _, v := range []api.Version{drop(from), version(t, fmt.Sprint(from)+" a x then b y within 5"), version(t, fmt.Sprint(from)+" a or b x then not c n within 3 by id")} {
				a, b, g := changed(t, l, v, ev, time)
				ahead, behind, gone = ahead+a, behind+b, gone+g
			}
		}
	}
	if min(ahead, behind, gone) < 1000 {
		t.Error("too few", ahead, behind, gone)
	}
}

// P15.4: Put and then Back leads back, if nothing was put away (and there was one, or Back has none to lead back to).
func TestBackAgain(t *testing.T) {
	r := dice(155)
	led, away, none := 0, 0, 0
	for range 6000 {
		l := r.versions(8)
		v := r.version(int64(r.below(60)))
		if r.rarely(3) {
			v = drop(v.From)
		}
		n, e := timeline.Put(l, v)
		if e != api.OK {
			continue
		}
		was, e := timeline.Back(n)
		switch {
		case len(n) == 1:
			if none++; e != api.ErrNone || !alike(was, []api.Version{v}) {
				t.Fatalf("%v: %v: %v", v, e, was)
			}
		case len(n) == len(l)+1:
			if led++; e != api.OK || !alike(was, l) {
				t.Fatalf("%v and %v: %v: %v", l, v, e, was)
			}
		default:
			if away++; e != api.OK || !alike(was, l[:len(n)-1]) {
				t.Fatalf("%v and %v: %v: %v", l, v, e, was)
			}
		}
	}
	if min(led, away, none) < 500 {
		t.Error("too few", led, away, none)
	}
}

// P15.4: one by one, there and back.
func TestThereAndBack(t *testing.T) {
	var rows [][]api.Version
	var l []api.Version
	for _, v := range versions(t, "0 a x within 5 | 4 drop | 5 b x+ then c y? where x.v > 1 + 2 within 3 by id pick next | 6 a x within 5 | 7 drop | 8 a x within 5 | 20 c x within 0 | 1099511627776 drop") {
		rows = append(rows, l)
		var e api.Errno
		if l, e = timeline.Put(l, v); e != api.OK {
			t.Fatal(v, e)
		}
	}
	for i := len(rows) - 1; i > 0; i-- {
		var e api.Errno
		if l, e = timeline.Back(l); e != api.OK || !alike(l, rows[i]) {
			t.Errorf("%d: %v: %v is not %v", i, e, l, rows[i])
		}
	}
	if len(l) != 1 {
		t.Error(l)
	}
}

// P15.5: a longer lookback finds the same, as long as nothing is degraded, if of any two events one is ahead.
func TestLongerLookback(t *testing.T) {
	r := dice(156)
	matches, longer, same, early := 0, 0, 0, 0
	for range 8000 {
		v := r.version(int64(4 + r.below(16)))
		ev := r.row(r.below(24), 30)
		time := int64(r.below(45))
		first := v.From - v.Query.Within
		got, since := timeline.Book(world(), []api.Version{v}, ev, time)
		for _, from := range []int64{0, first - 1, first - int64(r.below(9))} {
			all := slices.DeleteFunc(slices.Clone(ev), func(e api.Event) bool { return e.Ts < from })
			m, s := ledger.Book(world(), v.Query, r.mixed(all), min(time, most))
			if since >= 0 || s >= 0 {
				continue
			}
			if want := done(m, v.From, most); !alikeBooks(got, want) {
				t.Fatalf("%d %s: %v up to %d\n%s is not\n%s", v.From, tree.Print(v.Query), ev, time, told(got), told(want))
			}
			same++
		}
		for _, m := range got {
			matches++
			if b := m.Bound[0][0].Ts; b == first {
				early++
			}
		}
		if slices.ContainsFunc(ev, func(e api.Event) bool { return e.Ts < first }) {
			longer++
		}
	}
	if matches < 4000 || longer < 2000 || same < 12000 || early < 100 {
		t.Error("too few", matches, longer, same, early)
	}
}
