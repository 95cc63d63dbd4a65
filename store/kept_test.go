package store

import (
	"fmt"
	"math/rand"
	"slices"
	"strings"
	"testing"

	"tandem/api"
	"tandem/disk"
)

// fatesOf: fates of so many open writes that leave, take and tear them, each of these at each write.
func fatesOf(open []api.Write) []api.Fate {
	fates := []api.Fate{{Torn: -1}}
	if len(open) == 0 {
		return fates
	}
	fates = nil
	for bits := range 1 << len(open) {
		var taken []bool
		for i := range open {
			taken = append(taken, bits>>i&1 == 1)
		}
		fates = append(fates, api.Fate{Whole: taken, Torn: -1})
		for i, w := range open {
			n := len(w.Bytes)
			for _, b := range []int{0, 1, 8, n / 2, n - 1, n} {
				fates = append(fates, api.Fate{Whole: taken, Torn: i, Bytes: b})
			}
		}
	}
	return fates
}

// someFates: likewise, so many by chance.
func someFates(r *rand.Rand, open []api.Write, n int) (fates []api.Fate) {
	for range n {
		fate := api.Fate{Torn: -1}
		for range open {
			fate.Whole = append(fate.Whole, r.Intn(5) > 0)
		}
		if k := r.Intn(2 * len(open)); k < len(open) {
			fate.Torn, fate.Bytes = k, r.Intn(len(open[k].Bytes)+1)
		}
		fates = append(fates, fate)
	}
	return append(fates, api.Fate{Torn: -1}, api.Fate{Whole: slices.Repeat([]bool{true}, len(open)), Torn: -1})
}

// crashes: the disk behind crashes. One file alone has open writes, as a plan of Save leaves it.
func crashes(t *testing.T, r *rand.Rand, d api.Disk) (out []api.Disk) {
	t.Helper()
	at, size := -1, 0
	for i, f := range d.Files {
		size += len(f.Safe)
		if len(f.Open) > 0 {
			if at >= 0 {
				t.Fatalf("two files have open writes: %s, %s", d.Files[at].Name, f.Name)
			}
			at = i
		}
	}
	if at < 0 {
		return []api.Disk{disk.Crash(d)}
	}
	open := d.Files[at].Open
	fates := fatesOf(open[:min(len(open), 3)])
	// Of many writes, or beside many bytes, some of the fates have to do.
	if size > 30000 {
		fates = someFates(r, open, 4)
	} else if len(open) > 3 {
		fates = someFates(r, open, 20)
	}
	for _, fate := range fates {
		list := make([]api.Fate, at+1)
		list[at] = fate
		out = append(out, disk.Crash(d, list...))
	}
	return out
}

// way: the states on the way from one to the other, by the records; the last one is the new one.
func way(was, now api.Hard) []api.Hard {
	if renews(was, now) {
		return []api.Hard{was, now}
	}
	list := []api.Hard{was}
	for _, s := range recordsOf(was, now) {
		h, ok := behind(list[len(list)-1], s)
		if !ok {
			panic("a record on the way that may not be")
		}
		list = append(list, h)
	}
	return list
}

// beginning: is a a beginning of b?
func beginning(a, b []api.Entry) bool {
	return len(a) <= len(b) && slices.Equal(a, b[:len(a)])
}

// mayTell: P20.3's words of what may be told of a disk on which something between nothing and all of a plan was done.
func mayTell(was, now, got api.Hard) bool {
	if like(got, was) || like(got, now) {
		return true
	}
	if renews(was, now) || got.Snap != was.Snap || got.Log.Base != was.Log.Base || got.Log.BaseTerm != was.Log.BaseTerm || got.Log.Set != was.Log.Set {
		return false
	}
	vote := got.Term == was.Term && got.Vote == was.Vote || got.Term == now.Term && got.Vote == now.Vote
	return vote && (beginning(got.Log.List, was.Log.List) || beginning(got.Log.List, now.Log.List))
}

// like: are two states the same?
func like(a, b api.Hard) bool {
	same := a.Term == b.Term && a.Vote == b.Vote && a.Snap == b.Snap && a.Log.Base == b.Log.Base && a.Log.BaseTerm == b.Log.BaseTerm
	return same && a.Log.Set == b.Log.Set && slices.Equal(a.Log.List, b.Log.List)
}

// wantKept: P20.3 for one more Save, on a disk that has the old state; the disks behind crashes, mended, with the states that Open tells of them.
func wantKept(t *testing.T, r *rand.Rand, what string, d api.Disk, first api.Set, was, now api.Hard) (behind []known[api.Disk], told []api.Hard) {
	t.Helper()
	a := wantSave(t, what, d, was, now)
	if a.Err != 0 {
		t.Fatalf("%s: Save: error %d", what, a.Err)
	}
	states := way(was, now)
	for n := range len(a.Plan) + 1 {
		// Of long plans the first and last operations, and those at which a segment ends.
		if n > 3 && n+3 < len(a.Plan) && a.Plan[n-1].Kind != 2 && a.Plan[n].Kind != 2 {
			continue
		}
		for _, c := range crashes(t, r, do(t, d, a.Plan[:n]...)) {
			what := fmt.Sprintf("%s, behind %d of %d operations", what, n, len(a.Plan))
			o := wantOpen(t, what, c, first)
			switch is := slices.IndexFunc(states, func(h api.Hard) bool { return like(h, o.State) }); {
			case o.Err != 0:
				t.Fatalf("%s: Open: error %d", what, o.Err)
			case n == 0 && !like(o.State, was), n == len(a.Plan) && !like(o.State, now):
				t.Fatalf("%s: Open tells %+v", what, o.State)
			case is < 0, !mayTell(was, now, o.State):
				t.Fatalf("%s: Open tells a state that isn't on the way: %+v", what, o.State)
			}
			c = do(t, c, o.Plan...)
			wantLike(t, what+", mended", wantOpen(t, what, c, first), answer{State: o.State})
			behind, told = append(behind, known[api.Disk]{what, c}), append(told, o.State)
		}
	}
	return behind, told
}

// P20.3: from the empty disk by any Saves, then one more that is broken off, then a crash; and it goes on from there.
func TestKept(t *testing.T) {
	r := rand.New(rand.NewSource(2010))
	renewed, between := 0, 0
	for n := range 150 {
		first := numbered(1 + r.Intn(127))
		was, d := Fresh(first), api.Disk{}
		for k := range r.Intn(8) {
			now := next(r, was)
			d, was = saved(t, fmt.Sprintf("row %d, state %d", n, k), d, was, now), now
		}
		now := next(r, was)
		if renews(was, now) {
			renewed++
		}
		disks, states := wantKept(t, r, fmt.Sprint("row ", n), d, first, was, now)
		for i, x := range disks {
			if !like(states[i], was) && !like(states[i], now) {
				between++
			}
			if i%7 != n%7 {
				continue
			}
			h := next(r, states[i])
			after := disk.Crash(saved(t, x.what+", and on", x.thing, states[i], h))
			wantLike(t, x.what+", and on", wantOpen(t, x.what, after, first), answer{State: h})
		}
	}
	if renewed < 20 || between < 200 {
		t.Errorf("%d anew, %d between", renewed, between)
	}
}

// P20.3: crash behind crash: each time one more Save is broken off, and what is left goes on.
func TestKeptAgain(t *testing.T) {
	r := rand.New(rand.NewSource(2011))
	for n := range 60 {
		first := numbered(1 + r.Intn(127))
		was, d := Fresh(first), api.Disk{}
		for k := range 8 {
			disks, states := wantKept(t, r, fmt.Sprintf("row %d, crash %d", n, k), d, first, was, next(r, was))
			i := r.Intn(len(disks))
			d, was = disks[i].thing, states[i]
		}
	}
}

// P20.3: each change by hand, each beginning of its plan, all fates.
func TestKeptByHand(t *testing.T) {
	r := rand.New(rand.NewSource(2012))
	was := state()
	d := saved(t, "the old one", api.Disk{}, Fresh(members(5)), was)
	for _, x := range []struct {
		what   string
		change func(h *api.Hard)
	}{
		{"a vote", func(h *api.Hard) { h.Term, h.Vote = 10, 0 }}, {"an entry more", func(h *api.Hard) { h.Log.List = append(h.Log.List, none(9)) }},
		{"a vote and an entry", func(h *api.Hard) { h.Term, h.Log.List = 10, append(h.Log.List, none(10)) }},
		{"three more", func(h *api.Hard) { h.Log.List = append(h.Log.List, gives(3, 9, 5)...) }}, {"all cut", func(h *api.Hard) { h.Log.List = nil }},
		{"a vote, a cut, an entry", func(h *api.Hard) { h.Term, h.Log.List = 11, append(h.Log.List[:4], none(11)) }},
		{"a cut and two", func(h *api.Hard) { h.Log.List = append(h.Log.List[:9], none(8), give(8, 3)) }},
		{"another snapshot", func(h *api.Hard) { h.Snap = "another" }}, {"a long snapshot", func(h *api.Hard) { h.Snap = strings.Repeat("\x00", 100000) }},
		{"a shorter log", func(h *api.Hard) { h.Term, h.Vote, h.Log.Base, h.Log.List, h.Snap = 10, 1, 10, h.Log.List[3:], "three" }},
		{"nothing", func(h *api.Hard) {}},
	} {
		now := twin(was)
		x.change(&now)
		wantKept(t, r, x.what, d, members(5), was, now)
		wantKept(t, r, x.what+", on the empty disk", api.Disk{}, members(0, 2), Fresh(members(0, 2)), now)
	}
}

// P20.3: plans that need another segment, ahead of each of their records.
func TestKeptSegments(t *testing.T) {
	r := rand.New(rand.NewSource(2013))
	was, now := state(), state()
	now.Term, now.Log.List = 11, append(now.Log.List[:4], give(5, 62), give(11, 61), none(11))
	var ends []int
	for size, i := 0, 0; i < 5; i++ {
		size += len(frames(recordsOf(was, now)[i]))
		ends = append(ends, size)
	}
	for _, end := range append([]int{0}, ends...) {
		for _, more := range []int{-1, 0, 1} {
			was, now := twin(was), twin(now)
			was.Snap += strings.Repeat("s", 65536-end+more-len(frames(stateText(was))))
			now.Snap = was.Snap
			what := fmt.Sprintf("room for %d bytes", end-more)
			d := saved(t, what, api.Disk{}, Fresh(members(0, 1)), was)
			wantKept(t, r, what, d, members(0, 1), was, now)
		}
	}
}

// P20.3: plans of very many records, in three segments, and a snapshot of all.
func TestKeptMany(t *testing.T) {
	r := rand.New(rand.NewSource(2014))
	was := Fresh(members(0, 1))
	now := twin(was)
	now.Term, now.Log.List = 2, gives(512, 2, 1)
	for i := range now.Log.List {
		now.Log.List[i].Input.Data = strings.Repeat("d", 64)
	}
	other := twin(now)
	other.Term, other.Log.List = 3, append(other.Log.List[:100], gives(400, 3, 7)...)
	short := api.Hard{Term: 3, Vote: 1, Snap: strings.Repeat("s", 70000), Log: api.Log{Base: 490, BaseTerm: 3, Set: members(0, 1), List: other.Log.List[490:]}}
	more := twin(short)
	more.Log.List = append(more.Log.List, none(3), give(3, 1))
	d := api.Disk{}
	for i, h := range []api.Hard{now, other, short, more} {
		what := fmt.Sprint("many entries, ", i)
		wantKept(t, r, what, d, members(0, 1), was, h)
		d, was = saved(t, what, d, was, h), h
	}
}
