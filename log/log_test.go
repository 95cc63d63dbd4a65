package log

import (
	"fmt"
	"math/rand"
	"slices"
	"testing"

	"tandem/api"
)

// P19.1: the chapter's examples.
func TestExamples(t *testing.T) {
	if n := Agreed(members(0, 1, 2), [7]uint64{5, 3, 4}); n != 4 {
		t.Errorf("Agreed: %d, want 4", n)
	}
	if !Newer(api.Log{}, 0, 0) || !Newer(api.Log{Set: members(0)}, 0, 0) {
		t.Error("Newer of an empty log: false")
	}
}

// byHand: a log of five entries, at 11 to 15; the members change twice.
func byHand() api.Log {
	return api.Log{Base: 10, BaseTerm: 2, Set: members(0, 1, 2), List: []api.Entry{
		{Term: 2},
		{Term: 3, Kind: 1, Input: api.Input{ID: 70, Gap: 64, Dev: 1, Data: "AB"}},
		{Term: 3, Kind: 2, Set: members(0, 1)},
		{Term: 5, Kind: 1, Input: api.Input{ID: 71, Gap: 1, Dev: 2, Data: "C"}},
		{Term: 5, Kind: 2, Set: members(0, 1, 6)},
	}}
}

// P19.1: what the calls tell of it, all by hand.
func TestByHand(t *testing.T) {
	l := byHand()
	if index, term := Last(l); index != 15 || term != 5 || Check(l) != 0 {
		t.Errorf("Last: %d, %d; Check: %d", index, term, Check(l))
	}
	for _, x := range []struct {
		index, term uint64
		there, at   bool
		members     api.Set
		behind      int
	}{
		{0, 0, false, false, members(0, 1, 2), 0}, {9, 0, false, false, members(0, 1, 2), 0}, {10, 2, true, false, members(0, 1, 2), 5},
		{11, 2, true, true, members(0, 1, 2), 4}, {12, 3, true, true, members(0, 1, 2), 3}, {13, 3, true, true, members(0, 1), 2},
		{14, 5, true, true, members(0, 1), 1}, {15, 5, true, true, members(0, 1, 6), 0}, {16, 0, false, false, members(0, 1, 6), 0},
		{all, 0, false, false, members(0, 1, 6), 0},
	} {
		term, there := TermAt(l, x.index)
		e, at := At(l, x.index)
		if term != x.term || there != x.there || at != x.at || Members(l, x.index) != x.members {
			t.Errorf("index %d: term %d, %t, %t, members %v", x.index, term, there, at, Members(l, x.index))
		}
		want := api.Entry{}
		if x.at {
			want = l.List[x.index-11]
		}
		wantLike(t, fmt.Sprint("At ", x.index), e, want)
		short := answer{Err: api.ErrLog}
		if x.there {
			short = answer{Log: api.Log{Base: x.index, BaseTerm: x.term, Set: x.members, List: l.List[5-x.behind:]}}
		}
		wantLike(t, fmt.Sprint("Shorten to ", x.index), named("Shorten").call(asked{Log: l, Index: x.index}), short)
	}
	for _, x := range []struct{ from, most, first, end int }{
		{11, 2, 0, 2}, {11, 4, 0, 4}, {11, 5, 0, 5}, {11, 6, 0, 5}, {13, 1, 2, 3}, {14, 4, 3, 5}, {15, 1, 4, 5}, {15, most, 4, 5},
		{10, 4, 0, 0}, {16, 4, 0, 0}, {0, 4, 0, 0}, {12, 0, 0, 0}, {12, -1, 0, 0}, {12, least, 0, 0},
	} {
		wantLike(t, fmt.Sprintf("Slice from %d, %d at most", x.from, x.most), Slice(l, uint64(x.from), x.most), l.List[x.first:x.end])
	}
	for _, x := range []struct {
		index, term uint64
		want        bool
	}{{15, 5, true}, {14, 5, false}, {16, 5, true}, {0, 6, true}, {all, 4, false}, {15, 4, false}, {0, 5, false}, {15, 6, true}, {all, 5, true}} {
		if Newer(l, x.index, x.term) != x.want {
			t.Errorf("Newer %d of term %d: not %t", x.index, x.term, x.want)
		}
	}
}

// P19.1, P19.2: what Accept makes of that log, all by hand.
func TestAcceptByHand(t *testing.T) {
	l := byHand()
	in := func(id uint64) api.Input { return api.Input{ID: id, Gap: 5, Dev: 1, Data: "x"} }
	other := api.Entry{Term: 3, Kind: 1, Input: in(9)}
	late := api.Entry{Term: 6, Kind: 1, Input: in(10)}
	for _, x := range []struct {
		what    string
		prev    uint64
		term    uint64
		entries []api.Entry
		stays   int // of the old entries
		comes   []api.Entry
		told    uint64
	}{
		{"nothing behind the last one", 15, 5, nil, 5, nil, 15},
		{"nothing behind another one", 13, 3, nil, 5, nil, 13},
		{"nothing behind Base", 10, 2, nil, 5, nil, 10},
		{"nothing ahead of Base", 4, 99, nil, 5, nil, 4},
		{"one behind the last one", 15, 5, []api.Entry{late}, 5, []api.Entry{late}, 16},
		{"two behind the last one", 15, 5, []api.Entry{{Term: 5}, late}, 5, []api.Entry{{Term: 5}, late}, 17},
		{"what is there", 11, 2, l.List[1:4], 5, nil, 14},
		{"what is there, from Base on", 10, 2, l.List, 5, nil, 15},
		{"what is there, and one more", 13, 3, append(slices.Clone(l.List[3:]), late), 5, []api.Entry{late}, 16},
		{"one against what is there", 12, 3, []api.Entry{late}, 2, []api.Entry{late}, 13},
		{"one of an older term against it", 13, 3, []api.Entry{other}, 3, []api.Entry{other}, 14},
		{"one that is there, one against it", 11, 2, []api.Entry{other, late, late}, 2, []api.Entry{late, late}, 14},
		{"all against it", 10, 2, []api.Entry{other, other}, 0, []api.Entry{other, other}, 12},
		{"up to Base", 7, 0, []api.Entry{late, late, late}, 5, nil, 10},
		{"below Base", 7, 0, []api.Entry{late, late}, 5, nil, 9},
		{"from below Base on, and what is there", 8, 0, []api.Entry{late, {}, l.List[0], l.List[1]}, 5, nil, 12},
		{"from below Base on, against what is there", 8, 77, []api.Entry{{}, {}, l.List[0], late}, 1, []api.Entry{late}, 12},
		{"another entry of the same term", 11, 2, []api.Entry{other}, 5, nil, 12},
		{"one of the same term that may not be", 11, 2, []api.Entry{{Term: 3, Kind: 9}}, 5, nil, 12},
	} {
		want := answer{Log: l, A: x.told, OK: true}
		want.Log.List = append(slices.Clone(l.List[:x.stays]), x.comes...)
		wantLike(t, x.what, wantAccept(t, x.what, l, x.prev, x.term, x.entries...), want)
	}
	for _, x := range []struct {
		what    string
		prev    uint64
		term    uint64
		entries []api.Entry
	}{
		{"beyond the last one", 16, 5, nil}, {"another term", 15, 4, nil}, {"another term at Base", 10, 3, nil}, {"no term", 13, 0, []api.Entry{late}},
		{"far away", all, 5, nil}, {"a term that goes down", 15, 5, []api.Entry{{Term: 4}}}, {"an entry that may not be", 15, 5, []api.Entry{{Term: 5, Kind: 1}}},
		{"the last one goes down", 15, 5, []api.Entry{late, {Term: 5}}}, {"a term of 0", 12, 3, []api.Entry{{}}},
		{"below BaseTerm", 10, 2, []api.Entry{{Term: 1}}},
	} {
		wantLike(t, x.what, wantAccept(t, x.what, l, x.prev, x.term, x.entries...), answer{})
	}
}

// P19.1: entries that may be, their numbers at all edges.
func TestEntries(t *testing.T) {
	for _, term := range []uint64{1, 2, 3, 1000, top - 1, top} {
		for _, e := range mixed(1) {
			e.Term = term
			if !wantEntry(t, "a right one", e) {
				t.Errorf("%+v may not be", e)
			}
		}
	}
	for n := range 128 {
		e := api.Entry{Term: 1, Kind: 2, Set: numbered(n)}
		if wantEntry(t, "a Config", e) != (n > 0) {
			t.Errorf("a Config of %v: %t", ids(e.Set), n == 0)
		}
	}
	for n := -2; n < 70; n++ {
		for _, id := range []uint64{0, 1, 2, all} {
			e := give(1, id)
			e.Input.Gap = n
			wantEntry(t, "a Gap", e)
			e = give(1, id)
			e.Input.Dev = n
			wantEntry(t, "a Dev", e)
			e = give(1, id)
			e.Input.Data = string(make([]byte, max(n, 0)))
			if wantEntry(t, "Data", e) != (id > 0 && n > 0 && n < 65) {
				t.Errorf("ID %d, %d bytes", id, n)
			}
		}
	}
}

// P19.1: an entry that may not be, for each of its reasons.
func TestWrongEntries(t *testing.T) {
	for _, x := range wrongEntries() {
		if wantEntry(t, x.what, x.entry) {
			t.Errorf("%s: may be", x.what)
		}
		l := api.Log{Set: members(0), List: terms(1, 2, 3)}
		wantErr(t, x.what, wantAdd(t, x.what, l, x.entry), api.ErrLog)
		wantErr(t, x.what, wantAdd(t, x.what, l, none(3), x.entry, none(4)), api.ErrLog)
		wantLike(t, x.what, wantAccept(t, x.what, l, 3, 3, none(3), x.entry), answer{})
	}
}

// P19.1: logs that may be; each of them with an entry more may be as long as it has at most 512.
func TestRights(t *testing.T) {
	for _, x := range rights() {
		if e := wantCheck(t, x.what, x.log); e != 0 {
			t.Errorf("%s: error %d", x.what, e)
		}
		got := wantCall(t, x.what, "Copy", asked{Log: x.log})
		wantLike(t, x.what+": Copy", got.Log, x.log)
		wantCall(t, x.what, "Last", asked{Log: x.log})
		_, term := Last(x.log)
		a := wantAdd(t, x.what, x.log, none(max(term, 1)))
		if (a.Err == 0) != (len(x.log.List) < 512) || len(x.log.List) == 512 && a.Err != api.ErrFull {
			t.Errorf("%s: with one more: error %d", x.what, a.Err)
		}
	}
}

// P19.1: a log that may not be, for each of its reasons; the calls but Check, Add and Accept ask nothing of it.
func TestWrongLogs(t *testing.T) {
	for _, x := range wrongs() {
		l := changed(x)
		if e := wantCheck(t, x.what, l); e != api.ErrLog {
			t.Errorf("%s: error %d", x.what, e)
		}
		wantCall(t, x.what, "Copy", asked{Log: l})
		wantCall(t, x.what, "Last", asked{Log: l})
		want := api.ErrLog
		if len(l.List) > 512 {
			want = api.ErrFull
		}
		wantErr(t, x.what, wantAdd(t, x.what, l), want)
		for _, at := range []uint64{0, 6, 7, 8, 13, 17, 18, 520, l.Base, l.Base + 1, l.Base + 10, l.Base + 11} {
			term, _ := TermAt(l, at)
			wantAccept(t, x.what, l, at, term)
			wantAccept(t, x.what, l, at, term, none(9), none(top))
		}
	}
	if e := wantCheck(t, "no log", api.Log{}); e != api.ErrLog {
		t.Errorf("no log: error %d", e)
	}
	for n := range 128 {
		l := api.Log{Set: numbered(n), List: mixed(1)}
		if (wantCheck(t, "a set", l) == 0) != (n > 0) {
			t.Errorf("members %v: another answer", ids(l.Set))
		}
	}
}

// P19.1: Base, BaseTerm, lengths and terms just at their limits and one more.
func TestLimits(t *testing.T) {
	for _, base := range []uint64{0, 1, top - 1, top, top + 1, top + 2, 1 << 41, 1<<60 - 1, 1 << 60} {
		for _, term := range []uint64{0, 1, top - 1, top, top + 1, 1 << 41, 1 << 63, all} {
			for _, list := range [][]api.Entry{nil, terms(top), terms(term), terms(term - 1), terms(term, term), terms(term, term-1)} {
				l := api.Log{Base: base, BaseTerm: term, Set: members(4), List: list}
				what := fmt.Sprintf("Base %d, BaseTerm %d, %d entries", base, term, len(list))
				e := wantCheck(t, what, l)
				if len(list) == 0 && (e == 0) != (base <= top && term <= top) {
					t.Errorf("%s: error %d", what, e)
				}
			}
		}
	}
	for _, n := range []int{0, 1, 510, 511, 512, 513, 514, 1024, 70000} {
		l := api.Log{Set: members(0), List: nones(n, 1)}
		if e := wantCheck(t, "a length", l); (e == 0) != (n <= 512) {
			t.Errorf("%d entries: error %d", n, e)
		}
		for _, more := range []int{0, 1, 2, 511, 512, 513} {
			a := wantAdd(t, "a length", l, nones(more, 1)...)
			b := wantAccept(t, "a length", l, uint64(n), min(1, uint64(n)), nones(more, 1)...)
			if fits := n+more <= 512; (a.Err == 0) != fits || !fits && a.Err != api.ErrFull || b.OK != fits {
				t.Errorf("%d and %d entries: error %d, %t", n, more, a.Err, b.OK)
			}
		}
	}
}

// P19.1, P19.3: all places of all logs, and places that they haven't.
func TestPlaces(t *testing.T) {
	for _, x := range rights() {
		last, _ := Last(x.log)
		for _, index := range indexes(x.log) {
			wantAt(t, x.what, x.log, index)
			a := wantShorten(t, x.what, x.log, index)
			if (a.Err == 0) != (index >= x.log.Base && index <= last) {
				t.Errorf("%s: Shorten to %d: error %d", x.what, index, a.Err)
			}
		}
	}
}

// P19.1: likewise of logs that may not be.
func TestWrongPlaces(t *testing.T) {
	for _, x := range wrongs() {
		l := changed(x)
		for _, index := range []uint64{0, l.Base - 1, l.Base, l.Base + 1, l.Base + 3, l.Base + 6, l.Base + 10, l.Base + 11, lastBy(asked{Log: l}).A, all} {
			wantAt(t, x.what, l, index)
		}
	}
}

// P19.3: a log that is shortened place by place is the one that is shortened at once, and goes on as the whole one.
func TestShortenStepwise(t *testing.T) {
	for _, x := range rights() {
		if len(x.log.List) > 100 {
			continue
		}
		l := x.log
		last, term := Last(l)
		for at := l.Base; at <= last; at++ {
			l = wantShorten(t, x.what, l, at).Log
			wantLike(t, x.what, wantShorten(t, x.what, x.log, at).Log, l)
			more := []api.Entry{none(max(term, 1)), config(max(term, 1), 3)}
			a, b := wantAdd(t, x.what, x.log, more...), wantAdd(t, x.what, l, more...)
			if at > top {
				// Its Base is above what may be, so the shortened one takes no more.
				wantErr(t, x.what, b, api.ErrLog)
				continue
			}
			wantLike(t, x.what+": shortened, then longer", b.Log, wantShorten(t, x.what, a.Log, at).Log)
			for prev := at; prev <= min(last, top); prev++ {
				was, _ := TermAt(x.log, prev)
				a := wantAccept(t, x.what, x.log, prev, was, none(top))
				b := wantAccept(t, x.what, l, prev, was, none(top))
				wantLike(t, x.what+": shortened, then another one", b.Log, wantShorten(t, x.what, a.Log, at).Log)
			}
		}
	}
}

// P19.1: entries one by one and all at once.
func TestAdd(t *testing.T) {
	list := mixed(9)
	for _, x := range rights() {
		if _, term := Last(x.log); term > 9 || len(x.log.List) > 100 {
			continue
		}
		one := x.log
		for n := range list {
			a := wantAdd(t, x.what, one, list[n])
			b := wantAdd(t, x.what, x.log, list[:n+1]...)
			c := wantAdd(t, x.what, wantAdd(t, x.what, x.log, list[:n]...).Log, list[n])
			wantLike(t, x.what+": one by one", a, b)
			wantLike(t, x.what+": all but one, then one", c, b)
			if one = a.Log; a.Err != 0 || len(one.List) != len(x.log.List)+n+1 {
				t.Fatalf("%s: error %d", x.what, a.Err)
			}
		}
		wantLike(t, x.what+": none", wantAdd(t, x.what, x.log), answer{Log: x.log})
		wantErr(t, x.what, wantAdd(t, x.what, one, none(1)), api.ErrLog)
	}
}

// P19.1: Add's errors together: too many come first, whatever else is wrong.
func TestAddErrors(t *testing.T) {
	for _, x := range wrongs() {
		l := changed(x)
		l.List = append(nones(513, 1), l.List...)
		wantErr(t, x.what+" and too many", wantAdd(t, x.what, l), api.ErrFull)
		l = changed(x)
		wantErr(t, x.what+" and too many more", wantAdd(t, x.what, l, nones(513, 1)...), api.ErrFull)
		if len(l.List) <= 510 {
			wantErr(t, x.what+" and right ones", wantAdd(t, x.what, l, none(7), none(8)), api.ErrLog)
		}
	}
	full := api.Log{Set: members(0), List: nones(511, 2)}
	for _, x := range wrongEntries() {
		wantErr(t, x.what, wantAdd(t, x.what, full, x.entry), api.ErrLog)
		wantErr(t, x.what+" and one too many", wantAdd(t, x.what, full, x.entry, none(3)), api.ErrFull)
		wantErr(t, x.what+" and one too many", wantAdd(t, x.what, full, none(3), x.entry), api.ErrFull)
	}
	wantErr(t, "no member", wantAdd(t, "no member", api.Log{}, config(1, 0)), api.ErrLog)
	wantErr(t, "no member and too many", wantAdd(t, "no member", api.Log{}, nones(513, 1)...), api.ErrFull)
	if a := wantAdd(t, "the last one", full, none(2)); a.Err != 0 || len(a.Log.List) != 512 {
		t.Errorf("the last one: error %d", a.Err)
	}
}

// tails: what may be handed to Accept behind a place of a log: what is there, part of it, more than it, other things.
func tails(l api.Log, prev uint64) [][]api.Entry {
	_, term := Last(l)
	term = max(term, 1)
	var there []api.Entry
	if prev >= l.Base && prev-l.Base <= uint64(len(l.List)) {
		there = slices.Clone(l.List[prev-l.Base:])
	}
	list := [][]api.Entry{
		nil, {none(term)}, {give(term, 3), config(term, 2)}, {none(term + 1)}, {none(1)}, {none(term), none(term + 1), none(term)},
		{config(term+2, 0), config(term+2, 0, 1)}, {{}}, {none(term), {Term: term, Kind: 7}}, nones(4, term), nones(12, term+1), there,
		append(slices.Clone(there), none(term+1)), append(slices.Clone(there), none(term), none(term+4)),
	}
	if n := len(there); n > 0 {
		against := slices.Clone(there)
		against[n-1] = none(term + 1)
		other := slices.Clone(there)
		other[n/2] = give(other[n/2].Term, 99)
		list = append(list, there[:1], there[:n/2], there[:n-1], against, other)
	}
	return list
}

// P19.1, P19.2: Accept at every place, with the term there and with others, of entries of all kinds.
func TestAcceptEveryPlace(t *testing.T) {
	taken := 0
	for _, x := range rights() {
		for _, prev := range indexes(x.log) {
			term, _ := TermAt(x.log, prev)
			for n, list := range tails(x.log, prev) {
				for _, prevTerm := range []uint64{term, term + 1, term - 1, 0} {
					what := fmt.Sprintf("%s, behind %d of term %d, list %d", x.what, prev, prevTerm, n)
					a := wantAccept(t, what, x.log, prev, prevTerm, list...)
					if prev >= x.log.Base && prevTerm != term && a.OK {
						t.Errorf("%s: taken", what)
					}
					if a.OK {
						taken++
					}
				}
			}
		}
	}
	if taken < 2000 {
		t.Errorf("%d taken alone", taken)
	}
}

// P19.1: places below Base: the term there isn't asked, what lies up to Base is passed over, whatever it is.
func TestAcceptBelowBase(t *testing.T) {
	l := api.Log{Base: 600, BaseTerm: 3, Set: members(0, 1), List: terms(3, 4, 4)}
	for _, prev := range []uint64{0, 1, 87, 88, 89, 300, 597, 598, 599} {
		for _, term := range []uint64{0, 3, 4, all} {
			ahead := int(l.Base - prev)
			for _, n := range []int{0, 1, ahead - 1, ahead, ahead + 1, ahead + 2, ahead + 3, ahead + 4, 511, 512, 513} {
				what := fmt.Sprintf("%d of them behind %d, term %d", n, prev, term)
				list := nones(max(n, 0), 4)
				for i := range min(ahead, len(list)) {
					list[i] = api.Entry{Term: all, Kind: -1}
				}
				a := wantAccept(t, what, l, prev, term, list...)
				want := answer{Log: l, A: prev + uint64(len(list)), OK: true}
				// The first one behind Base is of another term than the one that is there.
				if more := len(list) - ahead; more > 0 {
					want.Log.List = nones(more, 4)
				}
				if len(list) > 512 {
					want = answer{}
				}
				wantLike(t, what, a, want)
			}
		}
	}
}

// P19.1, P19.2: logs that grow up to MaxLog and beyond it by Accept, with entries that are there ahead of the new ones.
func TestAcceptLengths(t *testing.T) {
	for _, base := range []uint64{0, 5, top - 600} {
		for _, n := range []int{0, 1, 100, 510, 511, 512} {
			l := api.Log{Base: base, BaseTerm: 2, Set: members(0), List: nones(n, 2)}
			for _, back := range []int{0, 1, 4, n} {
				if back > n {
					continue
				}
				prev := base + uint64(n-back)
				for _, size := range []int{0, 1, 2, 4, back, back + 1, back + 2, 511, 512, 513, 514, 600} {
					what := fmt.Sprintf("Base %d, %d entries, %d from %d on", base, n, size, prev+1)
					a := wantAccept(t, what, l, prev, 2, nones(size, 2)...)
					if a.OK != (n-back+size <= 512) || a.OK && len(a.Log.List) != max(n, n-back+size) {
						t.Errorf("%s: %t, %d entries", what, a.OK, len(a.Log.List))
					}
					b := wantAccept(t, what, l, prev, 2, nones(size, 3)...)
					if b.OK != a.OK || b.OK && size > 0 && len(b.Log.List) != n-back+size {
						t.Errorf("%s against what is there: %t, %d entries", what, b.OK, len(b.Log.List))
					}
				}
			}
		}
	}
	// A log that is too long is right again when its end goes.
	long := api.Log{Set: members(0), List: nones(600, 2)}
	wantLike(t, "too long", wantAccept(t, "too long", long, 600, 2), answer{})
	if a := wantAccept(t, "no more too long", long, 511, 2, none(3)); !a.OK || len(a.Log.List) != 512 {
		t.Errorf("no more too long: %t, %d entries", a.OK, len(a.Log.List))
	}
	wantLike(t, "still too long", wantAccept(t, "still too long", long, 512, 2, none(3)), answer{})
}

// P19.1: places about 2^40, the greatest that may be.
func TestAcceptGreatPlaces(t *testing.T) {
	for _, base := range []uint64{top - 2, top - 1, top, top + 1, top + 2, 1 << 60} {
		l := api.Log{Base: base, BaseTerm: 2, Set: members(0), List: terms(2, 2, 3)}
		for prev := base - 2; prev <= base+4; prev++ {
			term, _ := TermAt(l, prev)
			for _, list := range [][]api.Entry{nil, terms(3), terms(2, 3, 3, 3, 3), terms(9, 9)} {
				what := fmt.Sprintf("Base %d, %d entries behind %d", base, len(list), prev)
				a := wantAccept(t, what, l, prev, term, list...)
				if a.OK && (base > top || prev > top) || !a.OK && base <= top && prev+1 < base+1 {
					t.Errorf("%s: %t", what, a.OK)
				}
			}
		}
	}
}

// P19.2: a member that follows another one's log by chance, told late, twice and in pieces, has that log in the end.
func TestFollow(t *testing.T) {
	r := rand.New(rand.NewSource(1901))
	for n := range 400 {
		first := anyLog(r)
		_, term := Last(first)
		here, there := branch(r, first, term+1), branch(r, first, term+2)
		// A leader's log has an entry of a later term than all others, so nothing of another one's stays behind it.
		there = wantAdd(t, fmt.Sprint("log ", n), there, none(term+100)).Log
		last, _ := Last(there)
		if last > top {
			continue
		}
		tries := 0
		for prev := first.Base; prev < last; tries++ {
			if tries > 10000 {
				t.Fatalf("log %d: it comes to no end", n)
			}
			was, _ := TermAt(there, prev)
			list := Slice(there, prev+1, 1+r.Intn(4))
			what := fmt.Sprintf("log %d, behind %d", n, prev)
			a := wantAccept(t, what, here, prev, was, list...)
			if !a.OK {
				// What is there at prev is another one: the leader tries one place ahead.
				prev--
				continue
			}
			here = a.Log
			if r.Intn(3) > 0 {
				prev = a.A
			} else if r.Intn(3) == 0 {
				prev = first.Base
			}
		}
		wantLike(t, fmt.Sprint("log ", n), here, there)
	}
}

// P19.1: every set with every other one.
func TestMajorities(t *testing.T) {
	for n := range 128 {
		s := numbered(n)
		size := wantCall(t, "a set", "Count", asked{Set: s}).N
		for k := range 128 {
			a := wantCall(t, fmt.Sprintf("%v of %v", ids(numbered(k)), ids(s)), "Majority", asked{Set: s, Who: numbered(k)})
			both := len(ids(numbered(n & k)))
			if a.OK != (both > size-both) {
				t.Errorf("%v of %v: %t", ids(numbered(k)), ids(s), a.OK)
			}
		}
	}
	for _, x := range []struct {
		s, who api.Set
		want   bool
	}{
		{members(), members(), false}, {members(), members(0, 1, 2, 3, 4, 5, 6), false}, {members(3), members(), false}, {members(3), members(3), true},
		{members(0, 1), members(0), false}, {members(0, 1), members(0, 1), true}, {members(0, 1, 2), members(2, 0), true},
		{members(0, 1, 2), members(2, 3, 4, 5, 6), false}, {members(0, 1, 2, 3), members(0, 3), false}, {members(0, 1, 2, 3), members(0, 3, 2), true},
		{members(2, 3, 4, 5, 6), members(0, 1, 2, 3), false}, {members(0, 1, 2, 3, 4, 5, 6), members(0, 2, 4, 6), true},
		{members(0, 1, 2, 3, 4, 5, 6), members(0, 2, 4), false},
	} {
		if Majority(x.s, x.who) != x.want {
			t.Errorf("%v of %v: not %t", ids(x.who), ids(x.s), x.want)
		}
	}
}

// P19.4: two majorities of one set, and of two sets of which one has one member more, have a member in common, for all sets
// of seven; the one in common is a member of both sets.
func TestTwoMajorities(t *testing.T) {
	var majorities [128][]int
	for n := range majorities {
		for who := range 128 {
			if Majority(numbered(n), numbered(who)) {
				majorities[n] = append(majorities[n], who)
			}
		}
		if (len(majorities[n]) > 0) != (n > 0) {
			t.Errorf("%v has %d majorities", ids(numbered(n)), len(majorities[n]))
		}
	}
	pairs := 0
	for n := range majorities {
		for more := range 8 {
			with := n
			if more < 7 {
				with |= 1 << more
			}
			for _, a := range majorities[n] {
				for _, b := range majorities[with] {
					pairs++
					if a&b&n == 0 {
						t.Fatalf("%v of %v, %v of %v: no member in common", ids(numbered(a)), ids(numbered(n)), ids(numbered(b)), ids(numbered(with)))
					}
				}
			}
		}
	}
	if pairs < 1000000 {
		t.Errorf("%d pairs alone", pairs)
	}
}

// P19.1: numbers that all sets agree on: each way of three numbers, and the greatest ones.
func TestAgreed(t *testing.T) {
	for n := range 128 {
		for way := range 2187 {
			var have [7]uint64
			for i := range have {
				have[i], way = uint64(way%3), way/3
			}
			great := have
			for i := range great {
				great[i] += all - 2
			}
			for _, have := range [][7]uint64{have, great} {
				q := asked{Set: numbered(n), Have: have}
				if got, want := Agreed(q.Set, q.Have), agreedBy(q).A; got != want {
					t.Errorf("%v of %v: %d, want %d", have, ids(q.Set), got, want)
				}
			}
		}
	}
	for _, x := range []struct {
		s    api.Set
		have [7]uint64
		want uint64
	}{
		{members(), [7]uint64{1, 2, 3, 4, 5, 6, 7}, 0}, {members(3), [7]uint64{9, 9, 9, 4, 9, 9, 9}, 4}, {members(0, 1), [7]uint64{8, 3}, 3},
		{members(0, 1, 2), [7]uint64{0, 7, 0, 9, 9, 9, 9}, 0}, {members(4, 5, 6), [7]uint64{9, 9, 9, 9, 1, 2, 3}, 2},
		{members(0, 1, 2, 3), [7]uint64{1, 2, 3, 4}, 2}, {members(0, 1, 2, 3, 4), [7]uint64{5, 5, 1, 5, 9}, 5},
		{members(0, 1, 2, 3, 4, 5, 6), [7]uint64{7, 1, 6, 2, 5, 3, 4}, 4}, {members(0, 1, 2, 3, 4, 5), [7]uint64{7, 1, 6, 2, 5, 3, 4}, 3},
		{members(0, 6), [7]uint64{all, 0, 0, 0, 0, 0, all}, all}, {members(0, 1, 2), [7]uint64{all, 1 << 63, 0}, 1 << 63},
	} {
		if got := Agreed(x.s, x.have); got != x.want {
			t.Errorf("%v of %v: %d, want %d", x.have, ids(x.s), got, x.want)
		}
	}
}

// P1: of logs whose Base is above 2^60 all calls end, and Check tells ErrLog, and what is handed in stays as it was.
func TestGreatBases(t *testing.T) {
	numbers := []uint64{0, 1, top, 1 << 60, 1<<60 + 1, 1 << 62, 1<<63 - 1, 1 << 63, all - 600, all - 512, all - 511, all - 11, all - 10, all - 9, all - 2, all - 1, all}
	for _, base := range append(numbers[4:], 1<<61, 1<<60+512) {
		for _, list := range [][]api.Entry{nil, terms(1), mixed(1), nones(512, 1), nones(600, 1), {{Term: all, Kind: 2}}} {
			l := api.Log{Base: base, Set: members(1), List: list}
			if e := Check(l); e != api.ErrLog {
				t.Errorf("Base %d: error %d", base, e)
			}
			indexes := append([]uint64{base - 1, base, base + 1, base + 2, base + uint64(len(list)), base + uint64(len(list)) + 1}, numbers...)
			for _, index := range indexes {
				for n, more := range [][]api.Entry{nil, terms(1), nones(4, 9), nones(512, 9), nones(513, 9)} {
					q := asked{Log: l, Index: index, Term: uint64(n % 2), Most: []int{least, 0, 4, 600, most}[n], Entries: more}
					was := keptAsked(q)
					for _, c := range calls() {
						c.call(q)
					}
					wantLike(t, "a great Base: what was handed in", q, was)
				}
			}
		}
	}
}

// roomy: what the calls are handed, with spare room in each list.
func roomy() asked {
	spare := func(list []api.Entry) []api.Entry {
		out := append(make([]api.Entry, 0, 16), list...)
		copy(out[len(list):16], nones(16-len(list), 77))
		return out
	}
	l := api.Log{Base: 7, BaseTerm: 3, Set: members(3, 5), List: spare(mixed(3))}
	return asked{Log: l, Index: 11, Term: 4, Most: 4, Entries: spare([]api.Entry{none(6), config(7, 1)})}
}

// whole: likewise, the spare room shown too.
func whole(q asked) asked {
	q.Log.List, q.Entries = slices.Clone(q.Log.List[:16]), slices.Clone(q.Entries[:16])
	return q
}

// spoil: all of a list's room is written over.
func spoil(list []api.Entry) {
	for i := range list[:cap(list)] {
		list[:cap(list)][i] = api.Entry{Term: 1234567, Kind: -3}
	}
}

// P1, DOC.md's rule 3: nothing that is handed in is changed or kept, its spare room neither; an answer shares nothing with it.
func TestNewMemory(t *testing.T) {
	for _, c := range calls() {
		for _, index := range []uint64{6, 7, 8, 11, 16, 17} {
			for _, count := range []int{0, 1, 2} {
				what := fmt.Sprintf("%s, index %d, %d entries", c.name, index, count)
				made := func() asked {
					q := roomy()
					q.Index, q.Entries = index, q.Entries[:count]
					q.Term, _ = TermAt(q.Log, index)
					return q
				}
				want := keptAnswer(c.call(made()))
				q := made()
				got := c.call(q)
				wantLike(t, what+": what was handed in", whole(q), whole(made()))
				spoil(q.Log.List)
				spoil(q.Entries)
				wantLike(t, what+": the answer, behind a change of what was handed in", got, want)
				q = made()
				got = c.call(q)
				spoil(got.Log.List)
				spoil(got.List)
				wantLike(t, what+": what was handed in, behind a change of the answer", whole(q), whole(made()))
				wantLike(t, what+": asked again", c.call(q), want)
			}
		}
	}
}

// P1, DOC.md's rule 4: nothing is kept from call to call: the same calls answer the same, in the other order too.
func TestAsksNothingElse(t *testing.T) {
	r := rand.New(rand.NewSource(1902))
	var questions []asked
	for range 200 {
		questions = append(questions, anyAsked(r))
	}
	var answers []answer
	for _, q := range questions {
		for _, c := range calls() {
			answers = append(answers, c.call(q))
		}
	}
	list := calls()
	for i := len(answers) - 1; i >= 0; i-- {
		wantLike(t, fmt.Sprint("call ", i), list[i%len(list)].call(questions[i/len(list)]), answers[i])
	}
}

// anyAsked: what the calls may be handed, by chance.
func anyAsked(r *rand.Rand) asked {
	l := anyLog(r)
	if r.Intn(3) == 0 {
		l = spoilt(r, l)
	}
	q := asked{Log: l, Set: numbered(r.Intn(128)), Who: numbered(r.Intn(128)), Most: r.Intn(8) - 1}
	places := indexes(l)
	q.Index = places[r.Intn(len(places))]
	q.Term, _ = TermAt(l, q.Index)
	switch r.Intn(6) {
	case 0:
		q.Term = r.Uint64()
	case 1:
		q.Term += uint64(r.Intn(3)) - 1
	}
	ends := tails(l, q.Index)
	if q.Entries = ends[r.Intn(len(ends))]; r.Intn(2) == 0 {
		_, term := Last(l)
		q.Entries = anyEntries(r, r.Intn(6), term)
	}
	if q.Entry = anyEntry(r, uint64(r.Intn(5))); r.Intn(2) == 0 {
		bad := wrongEntries()
		q.Entry = bad[r.Intn(len(bad))].entry
	}
	for i := range q.Have {
		q.Have[i] = r.Uint64() >> (r.Intn(64))
	}
	return q
}

// P1, P19.1 to P19.3: all arguments of any kind.
func TestAnything(t *testing.T) {
	r := rand.New(rand.NewSource(1903))
	taken := 0
	for range 4000 {
		q := anyAsked(r)
		for _, c := range calls() {
			wantCall(t, "anything", c.name, q)
		}
		if wantAccept(t, "anything", q.Log, q.Index, q.Term, q.Entries...).OK {
			taken++
		}
		wantShorten(t, "anything", q.Log, q.Index)
	}
	if taken < 500 {
		t.Errorf("%d taken alone", taken)
	}
}
