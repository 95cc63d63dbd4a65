package store

import (
	"fmt"
	"math/rand"
	"slices"
	"strings"
	"testing"

	"tandem/api"
	"tandem/disk"
	"tandem/wal"
)

// do: the disk behind operations that all have to be done.
func do(t *testing.T, d api.Disk, ops ...api.DiskOp) api.Disk {
	t.Helper()
	d, n, e := disk.Do(d, ops...)
	if n != len(ops) || e != 0 {
		t.Fatalf("Do: %d of %d operations, error %d", n, len(ops), e)
	}
	return d
}

// saved: the disk behind a Save that has to be taken.
func saved(t *testing.T, what string, d api.Disk, was, now api.Hard) api.Disk {
	t.Helper()
	a := wantSave(t, what, d, was, now)
	if a.Err != 0 {
		t.Fatalf("%s: Save: error %d", what, a.Err)
	}
	return do(t, d, a.Plan...)
}

// P20.1: the chapter's example, and its bytes by hand.
func TestExample(t *testing.T) {
	was := Fresh(members(0, 1, 2))
	now := api.Hard{Term: 1, Log: api.Log{Set: members(0, 1, 2)}}
	record := bytesOf("03000000" + "01000000 68" + n8 + "0100000000000000" + n8 + "0100000000000000")
	want := answer{Plan: []api.DiskOp{put("r.000000", 0, frames(record)), sync("r.000000")}}
	wantLike(t, "the example", wantSave(t, "the example", api.Disk{}, was, now), want)
	wantLike(t, "Open behind it", wantOpen(t, "Open behind it", do(t, api.Disk{}, want.Plan...), members(0, 1, 2)), answer{State: now})
}

// P20.1: each kind of records by hand: a vote, a cut and an entry; then a whole state.
func TestSaveByHand(t *testing.T) {
	three := members(0, 1, 2)
	was := api.Hard{Term: 5, Vote: 2, Log: api.Log{Base: 10, BaseTerm: 1, Set: three, List: nones(4, 5)}}
	d := do(t, api.Disk{}, put("r.000004", 0, frames(stateText(was))), sync("r.000004"))
	size := len(frames(stateText(was)))
	now := twin(was)
	now.Term, now.Vote, now.Log.List[2] = 6, -1, api.Entry{Term: 6, Kind: 2, Set: members(0, 3, 6)}
	now.Log.List = now.Log.List[:3]
	vote := frames(bytesOf("03000000" + "01000000 68" + n8 + "0600000000000000" + nought))
	cut := frames(bytesOf("02000000" + "01000000 63" + n8 + "0c00000000000000"))
	entry := bytesOf("07000000" + n8 + "0600000000000000" + n8 + "0200000000000000" + nought + nought + nought + " 00000000" + n7 + "01000001000001")
	add := frames(bytesOf("03000000"+"01000000 65"+n8+"0d00000000000000") + short(len(entry)) + entry)
	wantLike(t, "by hand", wantSave(t, "by hand", d, was, now), answer{Plan: []api.DiskOp{
		put("r.000004", size, vote), put("r.000004", size+len(vote), cut), put("r.000004", size+len(vote)+len(cut), add), sync("r.000004"),
	}})
	wantLike(t, "Open behind it", wantOpen(t, "Open behind it", saved(t, "by hand", d, was, now), three), answer{State: now})
	was, now = now, api.Hard{Term: 7, Vote: 6, Snap: "xoy", Log: api.Log{Base: 12, BaseTerm: 5, Set: members(1, 5), List: now.Log.List[2:]}}
	whole := bytesOf("08000000"+"01000000 73"+n8+"0700000000000000"+n8+"0700000000000000"+n8+"0c00000000000000"+n8+"0500000000000000"+
		n7+"00010000000100"+"03000000 786f79") + short(len(entry)) + entry
	wantLike(t, "anew", wantSave(t, "anew", d, was, now), answer{Plan: []api.DiskOp{put("r.000006", 0, frames(whole)), sync("r.000006"), drop("r.000004")}})
	wantLike(t, "Open behind it", wantOpen(t, "Open behind it", saved(t, "anew", d, was, now), three), answer{State: now})
}

// P20.1: what each change of a state writes, and in which order; nothing for none.
func TestSaveChanges(t *testing.T) {
	was := state()
	d := do(t, api.Disk{}, put("r.000000", 0, frames(stateText(was))), sync("r.000000"))
	for _, x := range []struct {
		what   string
		change func(h *api.Hard)
		want   string // the first letters of the records
	}{
		{"nothing", func(h *api.Hard) {}, ""},
		{"Term", func(h *api.Hard) { h.Term = 10 }, "h"},
		{"Vote", func(h *api.Hard) { h.Vote = 3 }, "h"},
		{"no Vote any more", func(h *api.Hard) { h.Vote = -1 }, "h"},
		{"Term and Vote", func(h *api.Hard) { h.Term, h.Vote = 10, 0 }, "h"},
		{"an entry more", func(h *api.Hard) { h.Log.List = append(h.Log.List, none(7)) }, "e"},
		{"three entries more", func(h *api.Hard) { h.Log.List = append(h.Log.List, gives(3, 8, 1)...) }, "eee"},
		{"an entry less", func(h *api.Hard) { h.Log.List = h.Log.List[:9] }, "c"},
		{"one entry left", func(h *api.Hard) { h.Log.List = h.Log.List[:1] }, "c"},
		{"no entry left", func(h *api.Hard) { h.Log.List = nil }, "c"},
		{"another last one", func(h *api.Hard) { h.Log.List[9] = none(9) }, "ce"},
		{"another last one and one more", func(h *api.Hard) { h.Log.List = append(h.Log.List[:9], gives(2, 8, 4)...) }, "cee"},
		{"another first one", func(h *api.Hard) { h.Log.List[0] = config(3, 1) }, "ceeeeeeeeee"},
		{"two others", func(h *api.Hard) { h.Log.List[6], h.Log.List[8] = give(6, 9), none(7) }, "ceeee"},
		{"another Term of an entry", func(h *api.Hard) { h.Log.List[9].Term = 8 }, "ce"},
		{"another Kind", func(h *api.Hard) { h.Log.List[6] = config(6, 3) }, "ceeee"},
		{"another ID", func(h *api.Hard) { h.Log.List[9].Input.ID++ }, "ce"},
		{"another Gap", func(h *api.Hard) { h.Log.List[9].Input.Gap++ }, "ce"},
		{"another Dev", func(h *api.Hard) { h.Log.List[9].Input.Dev ^= 3 }, "ce"},
		{"other Data", func(h *api.Hard) { h.Log.List[9].Input.Data = "iij" }, "ce"},
		{"another Set of an entry", func(h *api.Hard) { h.Log.List[8].Set[4] = false }, "cee"},
		{"all at once", func(h *api.Hard) { h.Term, h.Log.List = 10, append(h.Log.List[:3], none(10), give(10, 1)) }, "hcee"},
		{"Term and an entry of it", func(h *api.Hard) { h.Term, h.Log.List = 10, append(h.Log.List, none(10)) }, "he"},
		{"Vote and entries less", func(h *api.Hard) { h.Vote, h.Log.List = 4, h.Log.List[:5] }, "hc"},
		{"Snap", func(h *api.Hard) { h.Snap = "a snapshos" }, "s"},
		{"no Snap any more", func(h *api.Hard) { h.Snap = "" }, "s"},
		{"Base", func(h *api.Hard) { h.Log.Base++ }, "s"},
		{"Base down", func(h *api.Hard) { h.Log.Base-- }, "s"},
		{"BaseTerm", func(h *api.Hard) { h.Log.BaseTerm = 2 }, "s"},
		{"Set", func(h *api.Hard) { h.Log.Set[6] = true }, "s"},
		{"a shorter log", func(h *api.Hard) { h.Log.Base, h.Log.List, h.Snap = 9, h.Log.List[2:], "another" }, "s"},
		{"a snapshot of all", func(h *api.Hard) { h.Log.Base, h.Log.BaseTerm, h.Log.List, h.Snap = 17, 7, nil, "another" }, "s"},
		{"Snap, Term, Vote and entries", func(h *api.Hard) { h.Snap, h.Term, h.Vote, h.Log.List = "x", 11, 5, append(h.Log.List[:4], none(11)) }, "s"},
	} {
		now := twin(was)
		x.change(&now)
		a := wantSave(t, x.what, d, was, now)
		got := ""
		for _, op := range a.Plan {
			if op.Kind == 1 {
				got += string(op.Bytes[8+8])
			}
		}
		if a.Err != 0 || got != x.want || len(a.Plan) == 0 != (x.want == "") {
			t.Errorf("%s: error %d, records %q, want %q", x.what, a.Err, got, x.want)
		}
		wantLike(t, x.what+": Open", wantOpen(t, x.what, disk.Crash(do(t, d, a.Plan...)), members(5)), answer{State: now})
	}
}

// P20.1, P20.2: from every state that may be to every other one, and back from the disk.
func TestSaveAll(t *testing.T) {
	for _, x := range rights() {
		first := saved(t, x.what, api.Disk{}, Fresh(members(3)), x.thing)
		wantLike(t, x.what+": Open", wantOpen(t, x.what, first, members(3)), answer{State: x.thing})
		for _, y := range rights() {
			what := x.what + ", then " + y.what
			a := wantSave(t, what, first, x.thing, y.thing)
			if y.thing.Term < x.thing.Term {
				wantErr(t, what, a, api.ErrStore)
				continue
			}
			d := do(t, first, a.Plan...)
			if a.Err != 0 || !slices.EqualFunc(disk.Crash(d).Files, d.Files, sameFile) {
				t.Errorf("%s: error %d, or not all is safe", what, a.Err)
			}
			wantLike(t, what+": Open", wantOpen(t, what, d, members(3)), answer{State: y.thing})
		}
	}
}

// sameFile: are the bytes of two files the same, safe and open ones?
func sameFile(a, b api.File) bool {
	return a.Name == b.Name && a.Safe == b.Safe && slices.Equal(a.Open, b.Open)
}

// P20.1: records that need more than one segment: the last Put's file is made safe, the ones ahead by chapter 4's plan.
func TestSegments(t *testing.T) {
	was := Fresh(members(0, 1))
	for _, n := range []int{1, 300, 321, 322, 323, 324, 325, 326, 327, 328, 329, 330, 400, 512} {
		now := twin(was)
		now.Term, now.Log.List = 1, gives(n, 1, 63*64)
		for i := range now.Log.List {
			now.Log.List[i].Input.Data = strings.Repeat("x", 64)
		}
		a := wantSave(t, "many entries", api.Disk{}, was, now)
		last := a.Plan[len(a.Plan)-2]
		if a.Plan[len(a.Plan)-1] != sync(last.Name) || (last.Name == "r.000001") != (9+33+n*(9+171) > 65536) {
			t.Errorf("%d entries: the last ones are %.300v", n, a.Plan[len(a.Plan)-2:])
		}
		d := do(t, api.Disk{}, a.Plan...)
		wantLike(t, "many entries", wantOpen(t, "many entries", disk.Crash(d), members(0, 1)), answer{State: now})
		d = saved(t, "fewer again", d, now, shortened(now, n/2))
		wantLike(t, "fewer again", wantOpen(t, "fewer again", disk.Crash(d), members(0, 1)), answer{State: shortened(now, n/2)})
	}
	// A record that is longer than a segment is followed by another segment.
	now := state()
	now.Snap = strings.Repeat("s", 100000)
	d := saved(t, "a long record", api.Disk{}, was, now)
	more := shortened(now, 3)
	wantLike(t, "behind a long record", wantSave(t, "behind a long record", d, now, more), answer{Plan: []api.DiskOp{
		sync("r.000000"), put("r.000001", 0, frames(cutText(10))), sync("r.000001"),
	}})
}

// P20.1: the longest record that a frame holds, and one byte more.
func TestLongest(t *testing.T) {
	for _, size := range []int{131070, 131071, 131072, 131073, 131074, 140000} {
		h := api.Hard{Term: 5, Vote: 0, Snap: strings.Repeat("s", 90000), Log: api.Log{Base: 1, BaseTerm: 1, Set: members(0)}}
		for len(stateText(h))+300 < size {
			h.Log.List = append(h.Log.List, give(5, 63))
		}
		h.Snap += strings.Repeat("s", size-len(stateText(h)))
		if len(stateText(h)) != size {
			t.Fatalf("a record of %d bytes", len(stateText(h)))
		}
		a := wantSave(t, "a long record", api.Disk{}, Fresh(members(0)), h)
		if size > 131072 {
			wantErr(t, fmt.Sprint(size, " bytes"), a, api.ErrLong)
		} else {
			wantLike(t, fmt.Sprint(size, " bytes"), wantOpen(t, "a long record", do(t, api.Disk{}, a.Plan...), members(3)), answer{State: h})
		}
	}
	// So long a state is refused where it has to be written whole, and there alone.
	h := api.Hard{Term: 5, Vote: 0, Snap: strings.Repeat("s", 100000), Log: api.Log{Base: 1, BaseTerm: 1, Set: members(0)}}
	d := saved(t, "a long snapshot", api.Disk{}, Fresh(members(0)), h)
	now := twin(h)
	now.Log.List = gives(512, 5, 63)
	d = saved(t, "many entries behind it", d, h, now)
	wantLike(t, "many entries behind it", wantOpen(t, "many entries behind it", d, members(0)), answer{State: now})
	set := with(now, func(h *api.Hard) { h.Log.Set = members(1) })
	wantErr(t, "and another Set", wantSave(t, "and another Set", d, now, set), api.ErrLong)
}

// full: a disk whose last segment can have no other one behind it.
func full() api.Disk {
	return api.Disk{Files: []api.File{{Name: "r.999999", Safe: frames(voteText(api.Hard{Term: 1})) + frames(strings.Repeat("x", 65480))}}}
}

// P20.1: chapter 4's errors are handed on: a segment's number above 999999, a record too long first.
func TestNoRoom(t *testing.T) {
	was, now := state(), state()
	now.Term = 10
	wantErr(t, "no room behind", wantSave(t, "no room behind", full(), was, now), api.ErrFull)
	wantLike(t, "nothing to write", wantSave(t, "nothing to write", full(), was, was), answer{})
	now = state()
	now.Snap = "another"
	for n, want := range map[string]api.Errno{"r.999997": 0, "r.999998": api.ErrFull, "r.999999": api.ErrFull} {
		d := api.Disk{Files: []api.File{{Name: n}}}
		if a := wantSave(t, "anew behind "+n, d, was, now); a.Err != want {
			t.Errorf("anew behind %s: error %d", n, a.Err)
		}
	}
	now.Snap, now.Log.List = strings.Repeat("s", 100000), gives(512, 9, 63)
	wantErr(t, "too long and no room", wantSave(t, "too long and no room", full(), was, now), api.ErrLong)
}

// P20.1: states that may be, and copies of them.
func TestRights(t *testing.T) {
	for _, x := range rights() {
		wantCheck(t, x.what, x.thing, 0)
		wantLike(t, x.what+": Copy", wantCall(t, x.what, "Copy", asked{Now: x.thing}), answer{State: x.thing})
	}
	for n := range 128 {
		h := wantCall(t, "a set", "Fresh", asked{Set: numbered(n)}).State
		wantLike(t, "a set", h, api.Hard{Vote: -1, Log: api.Log{Set: numbered(n)}})
		want := api.ErrLog
		if n > 0 {
			want = 0
		}
		wantCheck(t, "a set", h, want)
	}
	wantCheck(t, "no state", api.Hard{}, api.ErrLog)
}

// P20.1: a state that may not be, for each of its reasons, is refused as the old one and as the new one.
func TestWrongs(t *testing.T) {
	for _, x := range wrongs() {
		h := wrong(x)
		wantCheck(t, x.what, h, x.err)
		wantCall(t, x.what, "Copy", asked{Now: h})
		wantErr(t, x.what+", the old one", wantSave(t, x.what, api.Disk{}, h, state()), x.err)
		wantErr(t, x.what+", the new one", wantSave(t, x.what, api.Disk{}, state(), h), x.err)
		wantErr(t, x.what+", both", wantSave(t, x.what, api.Disk{}, h, h), x.err)
		wantErr(t, x.what+", and no room", wantSave(t, x.what, full(), state(), h), x.err)
	}
}

// P20.1: the limits just so: each number at its bound, one below it and one beyond.
func TestLimits(t *testing.T) {
	for _, term := range []uint64{0, 1, 2, top - 1, top, top + 1, all} {
		for _, base := range []uint64{0, 1, top - 1, top, top + 1, 1 << 60, 1<<60 + 1, 1 << 63, all - 1, all} {
			for _, baseTerm := range []uint64{0, 1, 2, top - 1, top, top + 1, all} {
				for _, list := range [][]api.Entry{nil, nones(1, 1), nones(1, term), nones(2, term-1), nones(1, term+1), nones(1, top), {none(1), none(term)}, {none(1), none(term + 1)}} {
					h := api.Hard{Term: term, Vote: 6, Log: api.Log{Base: base, BaseTerm: baseTerm, Set: members(1), List: list}}
					wantCall(t, fmt.Sprintf("%+v", h), "Check", asked{Now: h})
				}
			}
		}
	}
	for n := -9; n < 20; n++ {
		h := state()
		h.Vote = n
		wantCall(t, "a Vote", "Check", asked{Now: h})
	}
	for _, n := range []int{0, 1, 99998, 99999, 100000, 100001} {
		h := state()
		h.Snap = strings.Repeat("s", n)
		if a := wantCall(t, "a Snap", "Check", asked{Now: h}); (a.Err == 0) != (n <= 100000) {
			t.Errorf("a Snap of %d: error %d", n, a.Err)
		}
	}
	for _, n := range []int{0, 1, 511, 512, 513, 514} {
		h := state()
		h.Log.List = nones(n, 5)
		if a := wantCall(t, "a length", "Check", asked{Now: h}); (a.Err == 0) != (n <= 512) {
			t.Errorf("%d entries: error %d", n, a.Err)
		}
	}
}

// P20.1: errors that apply together: Term, Vote and Snap ahead of the log's, that ahead of the last term's.
func TestErrorsTogether(t *testing.T) {
	list := wrongs()
	for _, x := range list {
		for _, y := range list {
			if !strings.Contains(x.what, "entry: ") || !strings.Contains(y.what, "entry: ") {
				wantCall(t, x.what+" and "+y.what, "Check", asked{Now: with(wrong(x), y.change)})
			}
		}
	}
	great, low, late := state(), state(), state()
	great.Vote, low.Log.Set, late.Term = 7, api.Set{}, 6
	for _, x := range []struct {
		what string
		h    api.Hard
		want api.Errno
	}{
		{"a bound and a log", with(great, func(h *api.Hard) { h.Log.Set = api.Set{} }), api.ErrStore},
		{"a log and the last term", with(low, func(h *api.Hard) { h.Term = 6 }), api.ErrLog},
		{"a bound and the last term", with(late, func(h *api.Hard) { h.Vote = -2 }), api.ErrStore},
	} {
		wantCheck(t, x.what, x.h, x.want)
	}
	for _, x := range []struct {
		what     string
		disk     api.Disk
		was, now api.Hard
		want     api.Errno
	}{
		{"a bound, then a log", full(), great, low, api.ErrStore}, {"a log, then a bound", full(), low, great, api.ErrLog},
		{"the last term, then a log", full(), late, low, api.ErrStore}, {"a log, then the last term", full(), low, late, api.ErrLog},
		{"a log, and a Term that goes down", full(), state(), with(low, func(h *api.Hard) { h.Term = 8 }), api.ErrLog},
		{"a Term that goes down, and no room", full(), state(), with(state(), func(h *api.Hard) { h.Term = 8 }), api.ErrStore},
		{"a Term that goes down, and nothing else", api.Disk{}, state(), with(state(), func(h *api.Hard) { h.Term = 8 }), api.ErrStore},
		{"a Term that goes down, and another Snap", full(), state(), with(state(), func(h *api.Hard) { h.Term, h.Snap = 7, "x" }), api.ErrStore},
		{"the same Term, and no room", full(), state(), with(state(), func(h *api.Hard) { h.Vote = 5 }), api.ErrFull},
	} {
		wantErr(t, x.what, wantSave(t, x.what, x.disk, x.was, x.now), x.want)
	}
}

// P20.1: the empty disk, with every first set; one without a member is told first of all.
func TestOpenFirst(t *testing.T) {
	broken := diskOf("no record")
	for n := 1; n < 128; n++ {
		wantLike(t, "an empty disk", wantOpen(t, "an empty disk", api.Disk{}, numbered(n)), answer{State: api.Hard{Vote: -1, Log: api.Log{Set: numbered(n)}}})
		wantErr(t, "a broken one", wantOpen(t, "a broken one", broken, numbered(n)), api.ErrStore)
	}
	for _, d := range []api.Disk{{}, broken, diskOf(stateText(state())), {Files: []api.File{{Name: "r.000000", Safe: "torn"}}}} {
		wantErr(t, "nobody", wantOpen(t, "nobody", d, api.Set{}), api.ErrArg)
	}
	// Other files on the disk have nothing to say.
	d := api.Disk{Files: []api.File{{Name: "q.000000", Safe: frames("x")}, {Name: "r", Safe: frames("x")}, {Name: "r.00000", Safe: frames("x")}, {Name: "rr.000000", Safe: frames("x")}}}
	wantLike(t, "other files", wantOpen(t, "other files", d, members(2)), answer{State: Fresh(members(2))})
	now := state()
	wantLike(t, "beside other files", wantOpen(t, "beside other files", saved(t, "other files", d, Fresh(members(2)), now), members(2)), answer{State: now})
}

// P20.1: records one behind the other, by hand.
func TestOpenByHand(t *testing.T) {
	h := state()
	a, b := h.Log.List, []api.Entry{none(8), give(8, 3), config(9, 4)}
	vote := func(term uint64, who int) string { return voteText(api.Hard{Term: term, Vote: who}) }
	with := func(term uint64, who int, list ...api.Entry) api.Hard {
		return with(h, func(h *api.Hard) { h.Term, h.Vote, h.Log.List = term, who, list })
	}
	s := stateText(h)
	for _, x := range []struct {
		what    string
		records []string
		want    api.Hard
	}{
		{"a whole state", []string{s}, h},
		{"a vote", []string{s, vote(10, 6)}, with(10, 6, a...)},
		{"votes", []string{s, vote(10, 6), vote(10, -1), vote(12, 0)}, with(12, 0, a...)},
		{"a Term that goes down", []string{s, vote(7, 1)}, with(7, 1, a...)},
		{"the greatest Term", []string{s, vote(top, 1)}, with(top, 1, a...)},
		{"a cut of nothing", []string{s, cutText(17)}, h},
		{"a cut of one", []string{s, cutText(16)}, with(9, 2, a[:9]...)},
		{"a cut of all", []string{s, cutText(7)}, with(9, 2)},
		{"cuts", []string{s, cutText(15), cutText(15), cutText(9)}, with(9, 2, a[:2]...)},
		{"an entry", []string{s, addText(18, b[0])}, with(9, 2, append(slices.Clone(a), b[0])...)},
		{"entries", []string{s, addText(18, b[0]), addText(19, b[1]), addText(20, b[2])}, with(9, 2, append(slices.Clone(a), b...)...)},
		{"a cut, then entries", []string{s, cutText(9), addText(10, b[0]), addText(11, b[1])}, with(9, 2, append(slices.Clone(a[:2]), b[:2]...)...)},
		{"a cut of all, then an entry", []string{s, cutText(7), addText(8, b[1])}, with(9, 2, b[1])},
		{"entries, a cut, others", []string{s, addText(18, b[0]), addText(19, b[2]), cutText(18), addText(19, b[1])}, with(9, 2, append(slices.Clone(a), b[:2]...)...)},
		{"a vote, then an entry of its Term", []string{s, vote(11, 2), addText(18, none(11))}, with(11, 2, append(slices.Clone(a), none(11))...)},
		{"a cut, then a Term that goes down", []string{s, cutText(8), vote(3, 0)}, with(3, 0, a[:1]...)},
		{"a whole state behind others", []string{vote(3, 3), addText(1, none(2)), s}, h},
		{"two whole states", []string{s, addText(18, b[0]), stateText(with(5, -1))}, with(5, -1)},
		{"without a whole state", []string{vote(3, 3), addText(1, none(2)), addText(2, give(3, 1))},
			api.Hard{Term: 3, Vote: 3, Log: api.Log{Set: members(5), List: []api.Entry{none(2), give(3, 1)}}}},
		{"a cut at 0", []string{cutText(0)}, Fresh(members(5))},
	} {
		wantLike(t, x.what, wantOpen(t, x.what, diskOf(x.records...), members(5)), answer{State: x.want})
	}
}

// P20.1: records that may not be, of each of the four kinds and of none, and records that leave a state that may not be:
// at the beginning, behind others, and ahead of others that would be right.
func TestWrongRecords(t *testing.T) {
	h := state()
	s := stateText(h)
	vote := func(term, who uint64) string { return pack("h", num(term), num(who)) }
	list := []known[string]{
		{"nothing", ""}, {"no fields", pack()}, {"an empty field", pack("")}, {"no fields' bytes", "no record"}, {"half a record", s[:len(s)-1]},
		{"a byte too many", s + "\x00"}, {"too many fields", pack(slices.Repeat([]string{""}, 1025)...)},
		{"a vote above 2^40", vote(top+1, 0)}, {"a vote far above", vote(all, 0)}, {"who is 8", vote(9, 8)}, {"who is 2^32", vote(9, 1<<32)}, {"who is great", vote(9, all)},
		{"a Vote of 2^63", vote(9, 1<<63)}, {"below the last term", vote(6, 0)}, {"Term 0", vote(0, 0)},
		{"a cut ahead of Base", cutText(6)}, {"a cut far ahead", cutText(0)}, {"a cut behind the last one", cutText(18)}, {"a cut far behind", cutText(all)}, {"a cut at 2^63", cutText(1 << 63)},
		{"an entry that is there", addText(17, none(7))}, {"an entry with a gap", addText(19, none(7))}, {"an entry at Base", addText(7, none(7))}, {"an entry at 0", addText(0, none(7))},
		{"an entry far on", addText(all, none(7))}, {"an older term", addText(18, none(6))}, {"a term above Term", addText(18, none(10))},
	}
	for _, kind := range []string{"h", "c", "e", "s", "", "H", "hh", "cc", "a", "ce", "es", "h\x00", "\x00", "\xff", "vote", "0", "é"} {
		if list = append(list, known[string]{kind + " alone", pack(kind)}); !strings.Contains("hces", kind) || kind == "" || len(kind) > 1 {
			for what, fields := range map[string][]string{"a vote": {num(9), num(1)}, "a cut": {num(17)}, "an entry": {num(18), entryText(none(7))}} {
				list = append(list, known[string]{fmt.Sprintf("%s of kind %q", what, kind), pack(append([]string{kind}, fields...)...)})
			}
		}
	}
	for _, x := range wrongEntries() {
		list = append(list, known[string]{"an entry: " + x.what, addText(18, x.thing)})
	}
	for _, x := range wrongs() {
		list = append(list, known[string]{"a whole state: " + x.what, stateText(wrong(x))})
	}
	// No frame holds a longer one.
	list = slices.DeleteFunc(list, func(x known[string]) bool { return len(x.thing) > 131072 })
	for _, x := range list {
		wantErr(t, x.what, wantOpen(t, x.what, diskOf(s, x.thing), members(5)), api.ErrStore)
		wantErr(t, x.what, wantOpen(t, x.what, diskOf(s, x.thing, s), members(5)), api.ErrStore)
		wantErr(t, x.what, wantOpen(t, x.what, diskOf(s, voteText(api.Hard{Term: 9}), x.thing, cutText(17)), members(5)), api.ErrStore)
		wantOpen(t, x.what+" first of all", diskOf(x.thing), members(5))
		wantOpen(t, x.what+" first of all", diskOf(x.thing, s), members(5))
	}
}

// P20.1: records with fields that are spoilt: they are refused, but where they are other ones that may be.
func TestSpoiltRecords(t *testing.T) {
	h := state()
	s := stateText(h)
	small := api.Hard{Term: 5, Vote: 1, Snap: "s", Log: api.Log{Base: 3, BaseTerm: 2, Set: members(1, 6), List: []api.Entry{give(2, 2), config(4, 0)}}}
	good, bad := 0, 0
	for _, x := range []struct {
		record string
		nums   []int
		sets   []int
	}{
		{voteText(api.Hard{Term: 9, Vote: 3}), []int{1, 2}, nil}, {cutText(12), []int{1}, nil}, {addText(18, none(7)), []int{1}, nil},
		{addText(18, give(8, 3)), []int{1}, nil}, {stateText(small), []int{1, 2, 3, 4}, []int{5}},
	} {
		fields, _ := fieldsOf(x.record)
		list := append(spoilt(fields, x.nums, x.sets...), wrongBytes(x.record)...)
		for i, f := range fields {
			if in, ok := fieldsOf(f); ok && len(in) == 7 {
				for _, y := range spoilt(in, []int{0, 1, 2, 3, 4}, 6) {
					f := slices.Clone(fields)
					f[i] = y.thing
					list = append(list, known[string]{"the entry " + y.what, pack(f...)})
				}
			}
		}
		for _, y := range list {
			if len(y.thing) > 131072 {
				continue
			}
			what := fmt.Sprintf("%s: %s", fields[0], y.what)
			if a := wantOpen(t, what, diskOf(s, y.thing), members(5)); a.Err == 0 {
				good++
			} else {
				wantErr(t, what, a, api.ErrStore)
				bad++
			}
		}
	}
	if good < 100 || bad < 1000 {
		t.Errorf("%d taken, %d refused", good, bad)
	}
}

// P20.1: logs that grow up to MaxLog by records, and one beyond; a whole state so long.
func TestOpenLong(t *testing.T) {
	h := api.Hard{Term: 3, Vote: 0, Log: api.Log{Base: top, BaseTerm: 1, Set: members(0), List: nones(500, 2)}}
	records := []string{stateText(h)}
	for n := 501; n < 516; n++ {
		records = append(records, addText(top+uint64(n), give(3, uint64(n))))
		h.Log.List = append(h.Log.List, give(3, uint64(n)))
		what := fmt.Sprint(n, " entries")
		if a := wantOpen(t, what, diskOf(records...), members(5)); n <= 512 {
			wantLike(t, what, a, answer{State: h})
		} else {
			wantErr(t, what, a, api.ErrStore)
			wantErr(t, what+" at once", wantOpen(t, what, diskOf(stateText(h)), members(5)), api.ErrStore)
		}
	}
}

// P20.1: chapter 4's plan comes with the state: what is torn is cut off, what was left of an older log is dropped.
func TestOpenMends(t *testing.T) {
	h := state()
	good := frames(stateText(h), cutText(12))
	want := shortened(h, 5)
	torn := frames(addText(13, none(7)))
	d := api.Disk{Files: []api.File{{Name: "r.000001", Safe: frames("an older one")}, {Name: "r.000003", Safe: good + torn[:20]}, {Name: "r.000004", Safe: frames("lost")}, {Name: "r.000006", Safe: "\x00"}}}
	a := wantOpen(t, "torn", d, members(5))
	wantLike(t, "torn", a, answer{State: want, Plan: []api.DiskOp{drop("r.000006"), drop("r.000004"), {Kind: 3, Name: "r.000003", At: len(good)}, drop("r.000001")}})
	d = do(t, d, a.Plan...)
	wantLike(t, "mended", wantOpen(t, "mended", d, members(5)), answer{State: want})
	// Open writes that are there count.
	d.Files[0].Open = []api.Write{{At: len(good), Bytes: torn}}
	want.Log.List = append(want.Log.List, none(7))
	wantLike(t, "open writes", wantOpen(t, "open writes", d, members(5)), answer{State: want})
	// A log without a whole record is none.
	d = api.Disk{Files: []api.File{{Name: "r.000000", Safe: torn[:len(torn)-1]}}}
	wantLike(t, "nothing whole", wantOpen(t, "nothing whole", d, members(5)), answer{State: Fresh(members(5)), Plan: []api.DiskOp{drop("r.000000")}})
}

// P20.1, P20.2: any row of states, each saved, and read again behind each.
func TestRows(t *testing.T) {
	r := rand.New(rand.NewSource(2002))
	renewed, extended := 0, 0
	for n := range 300 {
		first := numbered(1 + r.Intn(127))
		h, d := Fresh(first), api.Disk{}
		for k := range 1 + r.Intn(30) {
			what := fmt.Sprintf("row %d, state %d", n, k)
			now := next(r, h)
			if renews(h, now) {
				renewed++
			} else if len(recordsOf(h, now)) > 0 {
				extended++
			}
			d = saved(t, what, d, h, now)
			wantLike(t, what, wantOpen(t, what, disk.Crash(d), first), answer{State: now})
			h = now
		}
	}
	if renewed < 300 || extended < 1000 {
		t.Errorf("%d anew, %d behind", renewed, extended)
	}
}

// P20.1: states that have nothing to do with each other, on disks of any kind.
func TestAnyStates(t *testing.T) {
	r := rand.New(rand.NewSource(2003))
	for range 3000 {
		wantCall(t, "any states", "Save", anyAsked(r))
	}
}

// anyRecord: by chance; many of them may be, behind each other.
func anyRecord(r *rand.Rand, h api.Hard) string {
	last := h.Log.Base + uint64(len(h.Log.List))
	switch r.Intn(12) {
	case 0:
		return stateText(next(r, h))
	case 1, 2, 3:
		return voteText(api.Hard{Term: h.Term + uint64(r.Intn(3)), Vote: r.Intn(8) - 1})
	case 4:
		return cutText(h.Log.Base + uint64(r.Intn(len(h.Log.List)+2)))
	case 5:
		return one(r, "", "x", pack("h"), voteText(api.Hard{Term: uint64(r.Intn(9)), Vote: r.Intn(9) - 1}), addText(last+uint64(r.Intn(2)), none(uint64(r.Intn(9)))))
	}
	return addText(last+1, anyEntry(r, max(lastTerm(h.Log), 1)))
}

// anyDisk: a disk with a log of any records, torn at its end now and then.
func anyDisk(r *rand.Rand, h api.Hard) api.Disk {
	d := api.Disk{}
	if r.Intn(4) == 0 {
		d.Files = append(d.Files, api.File{Name: one(r, "a", "q.000000", "r.000000", "r.00000"), Safe: frames("x")})
	}
	for range r.Intn(6) {
		record := anyRecord(r, h)
		plan, e := wal.Append(d, "r", record)
		if e != 0 {
			panic(e)
		}
		d, _, _ = disk.Do(d, plan...)
		h, _ = behind(h, record)
	}
	for i := range d.Files {
		if n := len(d.Files[i].Open); n > 0 && r.Intn(3) == 0 {
			w := &d.Files[i].Open[n-1]
			w.Bytes = w.Bytes[:r.Intn(len(w.Bytes))]
		}
	}
	return d
}

// anyAsked: what the calls may be handed, by chance.
func anyAsked(r *rand.Rand) asked {
	q := asked{Was: anyState(r), Set: numbered(r.Intn(128)), Msg: message(1 + r.Intn(6)), Entry: anyEntry(r, uint64(r.Intn(9)))}
	q.Now = anyState(r)
	if r.Intn(3) > 0 {
		q.Now = next(r, q.Was)
	}
	q.Disk = anyDisk(r, q.Was)
	if r.Intn(4) == 0 {
		q.Now = with(q.Now, one(r, wrongsOfStates...).change)
	}
	q.Msg.List = anyEntries(r, r.Intn(6), 1, 9)
	switch r.Intn(6) {
	case 0:
		q.Entry = one(r, wrongsOfEntries...).thing
		q.Text = entryText(q.Entry)
	case 1:
		q.Msg = one(r, wrongsOfMessages...).thing
		q.Text = messageText(q.Msg)
	case 2:
		q.Text = entryText(q.Entry)
	case 3:
		q.Text = messageText(q.Msg)
	}
	return q
}

// What may not be, for the calls by chance.
var (
	wrongsOfStates   = wrongs()
	wrongsOfEntries  = wrongEntries()
	wrongsOfMessages = wrongMessages()
)

// P1: all calls with arguments of any kind.
func TestAnything(t *testing.T) {
	r := rand.New(rand.NewSource(2004))
	for range 2000 {
		q := anyAsked(r)
		for _, c := range calls() {
			wantCall(t, "anything", c.name, q)
		}
	}
}

// P1: of logs whose Base is above 2^60 all calls end, and Check tells ErrLog.
func TestGreatBases(t *testing.T) {
	for _, base := range []uint64{1 << 60, 1<<60 + 1, 1 << 63, all - 512, all - 10, all - 9, all - 1, all} {
		h := state()
		h.Log.Base = base
		wantCheck(t, "a great Base", h, api.ErrLog)
		for _, c := range calls() {
			wantCall(t, "a great Base", c.name, asked{Was: h, Now: h, Disk: diskOf(stateText(h)), Set: members(1)})
			wantCall(t, "a great Base", c.name, asked{Was: state(), Now: h, Disk: diskOf(stateText(state()), cutText(base), addText(base, none(9))), Set: members(1)})
		}
	}
}

// P1: a disk of very many records is read in good time.
func TestManyRecords(t *testing.T) {
	h := api.Hard{Term: 9, Vote: 0, Log: api.Log{Set: members(0), List: gives(512, 5, 1)}}
	records := []string{stateText(h)}
	for n := range 40000 {
		records = append(records, voteText(api.Hard{Term: 9 + uint64(n), Vote: n%8 - 1}))
	}
	h.Term, h.Vote = 9+39999, 39999%8-1
	a := named("Open").call(asked{Disk: diskOf(records...), Set: members(1)})
	wantLike(t, "very many records", a, answer{State: h})
}

// roomy: what the calls are handed, with spare room in each list.
func roomy() asked {
	spare := func(list []api.Entry) []api.Entry {
		out := append(make([]api.Entry, 0, 16), list...)
		copy(out[len(list):16], nones(16-len(list), 77))
		return out
	}
	q := asked{Entry: give(3, 5), Msg: message(3), Was: state(), Now: state(), Set: members(1)}
	q.Text = messageText(q.Msg)
	q.Was.Log.List, q.Msg.List = spare(q.Was.Log.List), spare(q.Msg.List)
	q.Now.Term, q.Now.Log.List = 12, spare(append(q.Now.Log.List[:8], none(8), give(9, 1)))
	open := append(make([]api.Write, 0, 3), api.Write{Bytes: frames(stateText(q.Was))})
	q.Disk.Files = append(make([]api.File, 0, 3), api.File{Name: "q", Open: open}, api.File{Name: "r.000000", Open: open})
	return q
}

// spoil: all of a list's room is written over.
func spoil[T any](list []T, with T) {
	for i := range list[:cap(list)] {
		list[:cap(list)][i] = with
	}
}

// spoilAsked and spoilAnswer: all lists of what was handed in, or told.
func spoilAsked(q asked) {
	bad := api.Entry{Term: 1234567, Kind: -3}
	spoil(q.Was.Log.List, bad)
	spoil(q.Now.Log.List, bad)
	spoil(q.Msg.List, bad)
	for _, f := range q.Disk.Files {
		spoil(f.Open, api.Write{At: 3, Bytes: "spoilt"})
	}
	spoil(q.Disk.Files, api.File{Name: "spoilt"})
}

func spoilAnswer(a answer) {
	bad := api.Entry{Term: 1234567, Kind: -3}
	spoil(a.State.Log.List, bad)
	spoil(a.Msg.List, bad)
	spoil(a.Plan, api.DiskOp{Name: "spoilt"})
}

// P1, DOC.md's rule 3: nothing that is handed in is changed or kept, its spare room neither; an answer shares nothing with it.
func TestNewMemory(t *testing.T) {
	for _, c := range calls() {
		for _, change := range []func(q *asked){
			func(q *asked) {}, func(q *asked) { q.Now.Snap = "another" }, func(q *asked) { q.Text = entryText(q.Entry) }, func(q *asked) { q.Now = q.Was },
			func(q *asked) { q.Now.Log.List = q.Now.Log.List[:3] }, func(q *asked) { q.Msg.List = q.Msg.List[:1] }, func(q *asked) { q.Disk.Files = q.Disk.Files[:1] },
		} {
			made := func() asked {
				q := roomy()
				change(&q)
				return q
			}
			want := keptAnswer(c.call(made()))
			q := made()
			got := c.call(q)
			wantLike(t, c.name+": what was handed in", rooms(q), rooms(made()))
			spoilAsked(q)
			wantLike(t, c.name+": the answer, behind a change of what was handed in", got, want)
			q = made()
			got = c.call(q)
			spoilAnswer(got)
			wantLike(t, c.name+": what was handed in, behind a change of the answer", rooms(q), rooms(made()))
			wantLike(t, c.name+": asked again", c.call(q), want)
		}
	}
}

// rooms: all that the lists of what is handed in have room for.
func rooms(q asked) (list []string) {
	for _, l := range [][]api.Entry{q.Was.Log.List, q.Now.Log.List, q.Msg.List} {
		list = append(list, fmt.Sprintf("%+v", l[:cap(l)]))
	}
	list = append(list, fmt.Sprintf("%+v", q.Disk.Files[:cap(q.Disk.Files)]))
	for _, f := range q.Disk.Files {
		list = append(list, fmt.Sprintf("%+v", f.Open[:cap(f.Open)]))
	}
	return list
}

// P1, DOC.md's rule 4: nothing is kept from call to call: the same calls answer the same, in the other order too.
func TestAsksNothingElse(t *testing.T) {
	r := rand.New(rand.NewSource(2005))
	var questions []asked
	for range 100 {
		questions = append(questions, anyAsked(r))
	}
	var answers []answer
	for _, q := range questions {
		for _, c := range calls() {
			answers = append(answers, c.call(q))
		}
	}
	list := calls()
	for i := len(answers) - 1; i >= 0; i-- {
		wantLike(t, fmt.Sprint("call ", i), list[i%len(list)].call(questions[i/len(list)]), answers[i])
	}
}
