package graph_test

import (
	"slices"
	"testing"

	"augury/api"
	"augury/graph"
)

// sample calls for all rows of four, and for thrown ones.
func sample(t *testing.T, number int, call func(l []api.Entry)) {
	t.Helper()
	for bits := range 1 << 16 {
		call(wired(4, bits))
	}
	r := dice(number)
	for range 10000 {
		call(r.entries(1 + r.below(4)))
		if t.Failed() {
			t.FailNow()
		}
	}
}

// ahead tells whether all places stand in a row once, each behind all that it reads.
func ahead(l []api.Entry, row []int) bool {
	done := make([]bool, len(l))
	for _, at := range row {
		if at < 0 || at >= len(l) || done[at] {
			return false
		}
		for _, i := range graph.Reads(l, at) {
			if !done[i] {
				return false
			}
		}
		done[at] = true
	}
	return !slices.Contains(done, false)
}

// P16.2: in Order what is read stands ahead of who reads it.
func TestReadAhead(t *testing.T) {
	many := 0
	sample(t, 1621, func(l []api.Entry) {
		row := graph.Order(l)
		if _, e := graph.Depths(l); e != api.OK {
			if len(row) > 0 {
				t.Errorf("%s: %v: %v", shown(l), e, row)
			}
			return
		}
		if !ahead(l, row) {
			t.Errorf("%s: %v", shown(l), row)
		}
		if len(row) > 2 {
			many++
		}
	})
	if many < 3000 {
		t.Error("too few", many)
	}
}

// more is an entry with one more version, that reads one more.
func more(x api.Entry, name string) api.Entry {
	last := x.Versions[len(x.Versions)-1]
	x.Versions = append(slices.Clone(x.Versions), api.Version{From: last.From + 1, Query: reader("", name).Versions[0].Query})
	return x
}

// P16.2: a ring has no order: where one is closed, and from then on, there is none, whatever else is read.
func TestRingHasNone(t *testing.T) {
	r := dice(1622)
	closed := 0
	for range 10000 {
		l := r.entries(4)
		if len(graph.Order(l)) == 0 {
			continue
		}
		at := r.below(len(l))
		for _, who := range append(graph.Readers(l, at), at) {
			ring := slices.Clone(l)
			if ring[at] = more(l[at], l[who].Name); !graph.Right(ring) {
				continue
			}
			other := r.below(len(l))
			for _, rest := range [][]api.Entry{ring, slices.Concat(ring[:other], []api.Entry{more(ring[other], l[r.below(len(l))].Name)}, ring[other+1:])} {
				if !graph.Right(rest) {
					continue
				}
				closed++
				if deep, e := graph.Depths(rest); e != api.ErrRing || len(deep) > 0 || len(graph.Order(rest)) > 0 {
					t.Fatalf("%s: %v %v %v", shown(rest), deep, e, graph.Order(rest))
				}
				if !slices.Contains(graph.Readers(rest, at), at) {
					t.Fatalf("%s: %d: %v", shown(rest), at, graph.Readers(rest, at))
				}
			}
		}
		// One that no way leads back from closes none.
		free := slices.Clone(l)
		way := graph.Readers(l, at)
		who := r.below(len(l))
		if free[at] = more(l[at], l[who].Name); who != at && !slices.Contains(way, who) && graph.Right(free) {
			if _, e := graph.Depths(free); e == api.ErrRing {
				t.Fatalf("%s: %v", shown(free), e)
			}
		}
	}
	if closed < 5000 {
		t.Error("too few", closed)
	}
}

// P16.3: who reads something is deeper than that, and no deeper than it must be.
func TestDeeper(t *testing.T) {
	pairs := 0
	sample(t, 1631, func(l []api.Entry) {
		deep, e := graph.Depths(l)
		if e != api.OK {
			return
		}
		for at := range l {
			least := 1
			for _, i := range graph.Reads(l, at) {
				pairs++
				least = max(least, deep[i]+1)
			}
			if deep[at] != least || least > api.MaxDepth {
				t.Errorf("%s: %d: %v", shown(l), at, deep)
			}
			for _, who := range graph.Readers(l, at) {
				if deep[who] <= deep[at] {
					t.Errorf("%s: %d of %d: %v", shown(l), who, at, deep)
				}
			}
		}
	})
	if pairs < 5000 {
		t.Error("too few", pairs)
	}
}

// leads tells whether a way leads from one to another one, step by step, by what is read.
func leads(l []api.Entry, from, to int) bool {
	step := []int{from}
	for range l {
		var next []int
		for _, at := range step {
			next = append(next, graph.Reads(l, at)...)
		}
		slices.Sort(next)
		step = slices.Compact(next)
		if slices.Contains(step, to) {
			return true
		}
	}
	return false
}

// P16.3: Readers are just those from whom there is a way, rising, each once.
func TestJustReaders(t *testing.T) {
	count := map[bool]int{}
	sample(t, 1632, func(l []api.Entry) {
		for at := range l {
			row := graph.Readers(l, at)
			if !slices.IsSorted(row) || len(slices.Compact(slices.Clone(row))) != len(row) {
				t.Errorf("%s: %d: %v", shown(l), at, row)
			}
			for who := range l {
				way := leads(l, who, at)
				if count[way]++; slices.Contains(row, who) != way {
					t.Errorf("%s: %d of %d: %v", shown(l), who, at, row)
				}
			}
		}
	})
	if min(count[true], count[false]) < 10000 {
		t.Error("too few", count)
	}
}
