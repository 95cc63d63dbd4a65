package store

import (
	"fmt"
	"math"
	"math/rand"
	"slices"
	"strings"

	"tandem/api"
	"tandem/wire"
)

const (
	all   = math.MaxUint64
	least = math.MinInt
	most  = math.MaxInt
	top   = 1 << 40 // the greatest Term, Base and Index
)

// members: the set of these.
func members(list ...int) (s api.Set) {
	for _, i := range list {
		s[i] = true
	}
	return s
}

// numbered: the set whose members are the number's bits.
func numbered(n int) (s api.Set) {
	for i := range s {
		s[i] = n>>i&1 == 1
	}
	return s
}

func none(term uint64) api.Entry { return api.Entry{Term: term} }

func give(term, id uint64) api.Entry {
	in := api.Input{ID: id, Gap: int(id%64) + 1, Dev: int(id%2) + 1, Data: strings.Repeat("i", int(id%64)+1)}
	return api.Entry{Term: term, Kind: 1, Input: in}
}

func config(term uint64, list ...int) api.Entry {
	return api.Entry{Term: term, Kind: 2, Set: members(list...)}
}

// gives: so many entries of one term, unlike each other, the first with this ID.
func gives(n int, term, id uint64) (list []api.Entry) {
	for i := range n {
		list = append(list, give(term, id+uint64(i)))
	}
	return list
}

// nones: so many entries of one term.
func nones(n int, term uint64) []api.Entry { return slices.Repeat([]api.Entry{none(term)}, n) }

// mixed: entries of all three Kinds and of four terms, from this one on.
func mixed(term uint64) []api.Entry {
	return []api.Entry{
		none(term), give(term, 1), config(term, 0, 1, 2), give(term+1, 7), give(term+1, all), config(term+3, 0, 1), none(term + 3),
		give(term+3, 64), config(term+4, 0, 1, 2, 3, 4, 5, 6), give(term+4, 2),
	}
}

// An entry, a message or a state by what it is.
type known[T any] struct {
	what  string
	thing T
}

// rightEntries: those that may be, with their numbers at all edges.
func rightEntries() (list []known[api.Entry]) {
	put := func(what string, e api.Entry) { list = append(list, known[api.Entry]{what, e}) }
	for _, term := range []uint64{1, 2, 255, 256, 0x0102030405, top - 1, top} {
		for _, e := range mixed(1) {
			e.Term = term
			put(fmt.Sprintf("Kind %d of term %d", e.Kind, term), e)
		}
	}
	for n := 1; n < 65; n++ {
		e := give(5, 3)
		e.Input.Gap, e.Input.Data, e.Input.Dev = n, strings.Repeat("\x00", 65-n), n%2+1
		put(fmt.Sprint("Gap ", n), e)
	}
	for _, id := range []uint64{1, 2, 258, 1 << 32, 1 << 63, all - 1, all} {
		put(fmt.Sprint("ID ", id), give(5, id))
	}
	for n := 1; n < 128; n++ {
		put(fmt.Sprint("the set ", n), api.Entry{Term: 9, Kind: 2, Set: numbered(n)})
	}
	for n := range 256 {
		e := give(5, 3)
		e.Input.Data = string([]byte{byte(n), 'a', byte(n)})
		put(fmt.Sprint("Data of byte ", n), e)
	}
	return list
}

// wrongEntries: those that may not be, for each reason, alone and together.
func wrongEntries() (list []known[api.Entry]) {
	put := func(what string, e api.Entry) { list = append(list, known[api.Entry]{what, e}) }
	for _, e := range []api.Entry{none(3), give(3, 5), config(3, 0, 1)} {
		for _, term := range []uint64{0, top + 1, top + 2, 1 << 41, 1 << 63, all} {
			f := e
			f.Term = term
			put(fmt.Sprintf("Kind %d of term %d", e.Kind, term), f)
		}
		for _, kind := range []int{-1, 3, 4, 256, 1 << 32, 1<<32 + 1, 1<<32 + 2, least, least + 1, most, 0, 1, 2} {
			f := e
			if f.Kind = kind; kind != e.Kind {
				put(fmt.Sprintf("Kind %d that is %d", e.Kind, kind), f)
			}
		}
	}
	for _, e := range []api.Entry{none(3), config(3, 1)} {
		for _, in := range []api.Input{{ID: 1}, {ID: all}, {Gap: 1}, {Gap: -1}, {Dev: 1}, {Dev: -1}, {Data: "x"}, {Data: "\x00"}, give(3, 5).Input} {
			e.Input = in
			put(fmt.Sprintf("Kind %d with %+v", e.Kind, in), e)
		}
	}
	for i := range 7 {
		f, g := none(3), give(3, 5)
		f.Set[i], g.Set[i] = true, true
		put(fmt.Sprint("None with member ", i), f)
		put(fmt.Sprint("Give with member ", i), g)
	}
	put("Config without a member", config(3))
	for _, n := range []int{0, -1, 3, 4, 65, 66, 1<<32 + 1, least, least + 1, most} {
		f, g := give(3, 5), give(3, 5)
		if f.Input.Gap = n; n < 1 || n > 64 {
			put(fmt.Sprint("Gap ", n), f)
		}
		g.Input.Dev = n
		put(fmt.Sprint("Dev ", n), g)
	}
	for _, n := range []int{0, 65, 66, 256, 1<<17 + 1} {
		f := give(3, 5)
		f.Input.Data = strings.Repeat("x", n)
		put(fmt.Sprint(n, " bytes"), f)
	}
	f := give(3, 5)
	f.Input.ID = 0
	put("ID 0", f)
	put("nothing", api.Entry{})
	return list
}

// message: one that may be, of any kind.
func message(kind int) api.Msg {
	return api.Msg{
		Kind: kind, From: 2, Term: 7, Index: 31, Was: 6, OK: true, Done: 30, Mark: 258, List: mixed(3)[:4], Set: members(0, 2, 6), Snap: "a snapshot",
	}
}

// change: a thing with a change, by its name.
type change[T any] struct {
	what   string
	change func(*T)
}

// rightMessages: messages that may be, with each field at its bounds.
func rightMessages() (list []known[api.Msg]) {
	changes := []change[api.Msg]{
		{"as it is", func(m *api.Msg) {}}, {"no OK", func(m *api.Msg) { m.OK = false }}, {"nobody in the Set", func(m *api.Msg) { m.Set = api.Set{} }},
		{"no Snap", func(m *api.Msg) { m.Snap = "" }}, {"the longest Snap", func(m *api.Msg) { m.Snap = strings.Repeat("s", 100000) }},
		{"a Snap of noughts", func(m *api.Msg) { m.Snap = strings.Repeat("\x00", 99999) }},
		{"no entries", func(m *api.Msg) { m.List = nil }}, {"terms that go down", func(m *api.Msg) { m.List = []api.Entry{none(9), none(1), none(top), none(2)} }},
		{"no Mark", func(m *api.Msg) { m.Mark = 0 }}, {"the greatest Mark", func(m *api.Msg) { m.Mark = all }}, {"a Mark above 2^40", func(m *api.Msg) { m.Mark = top + 1 }},
		{"all four great", func(m *api.Msg) { m.Term, m.Index, m.Was, m.Done = top, top, top, top }},
		{"as little as may be", func(m *api.Msg) { *m = api.Msg{Kind: m.Kind, Term: 1} }},
		{"entries alone", func(m *api.Msg) { *m = api.Msg{Kind: m.Kind, Term: 1, List: m.List} }},
	}
	for n := range 7 {
		changes = append(changes, change[api.Msg]{fmt.Sprint("From ", n), func(m *api.Msg) { m.From = n }})
	}
	for n := range 5 {
		changes = append(changes, change[api.Msg]{fmt.Sprint(n, " entries"), func(m *api.Msg) { m.List = gives(n, 5, 1) }})
	}
	for _, n := range []uint64{0, 1, 255, 256, top - 1, top} {
		changes = append(changes,
			change[api.Msg]{fmt.Sprint("Term ", n), func(m *api.Msg) { m.Term = max(n, 1) }}, change[api.Msg]{fmt.Sprint("Index ", n), func(m *api.Msg) { m.Index = n }},
			change[api.Msg]{fmt.Sprint("Was ", n), func(m *api.Msg) { m.Was = n }}, change[api.Msg]{fmt.Sprint("Done ", n), func(m *api.Msg) { m.Done = n }})
	}
	for kind := 1; kind < 7; kind++ {
		for _, c := range changes {
			m := message(kind)
			c.change(&m)
			list = append(list, known[api.Msg]{fmt.Sprintf("Kind %d, %s", kind, c.what), m})
		}
	}
	for n := range 128 {
		m := message(5)
		m.Set = numbered(n)
		list = append(list, known[api.Msg]{fmt.Sprint("the set ", n), m})
	}
	for _, e := range rightEntries() {
		m := message(3)
		m.List[len(list)%4] = e.thing
		list = append(list, known[api.Msg]{"an entry: " + e.what, m})
	}
	return list
}

// wrongMessages: those that may not be, for each reason.
func wrongMessages() (list []known[api.Msg]) {
	put := func(what string, change func(m *api.Msg)) {
		m := message(1 + len(list)%6)
		change(&m)
		list = append(list, known[api.Msg]{what, m})
	}
	for _, n := range []int{0, -1, 7, 8, 256, 1<<32 + 1, least, least + 1, most} {
		put(fmt.Sprint("Kind ", n), func(m *api.Msg) { m.Kind = n })
		if n != 0 {
			put(fmt.Sprint("From ", n), func(m *api.Msg) { m.From = n })
		}
	}
	for _, n := range []uint64{top + 1, top + 2, 1 << 41, 1 << 63, all} {
		put(fmt.Sprint("Term ", n), func(m *api.Msg) { m.Term = n })
		put(fmt.Sprint("Index ", n), func(m *api.Msg) { m.Index = n })
		put(fmt.Sprint("Was ", n), func(m *api.Msg) { m.Was = n })
		put(fmt.Sprint("Done ", n), func(m *api.Msg) { m.Done = n })
	}
	put("Term 0", func(m *api.Msg) { m.Term = 0 })
	for _, n := range []int{5, 6, 512, 1014, 1015} {
		put(fmt.Sprint(n, " entries"), func(m *api.Msg) { m.List = nones(n, 2) })
	}
	for _, n := range []int{100001, 100002, 131072, 131073} {
		put(fmt.Sprint("a Snap of ", n), func(m *api.Msg) { m.Snap = strings.Repeat("s", n) })
	}
	for n, e := range wrongEntries() {
		put("an entry: "+e.what, func(m *api.Msg) { m.List[n%4] = e.thing })
	}
	put("nothing", func(m *api.Msg) { *m = api.Msg{} })
	return list
}

// state: one that may be: with a snapshot, and entries of all Kinds.
func state() api.Hard {
	return api.Hard{Term: 9, Vote: 2, Snap: "a snapshot", Log: api.Log{Base: 7, BaseTerm: 3, Set: members(0, 2), List: mixed(3)}}
}

// rights: states that may be.
func rights() []known[api.Hard] {
	three := members(0, 1, 2)
	long := strings.Repeat("s", 100000)
	list := []known[api.Hard]{
		{"a new one", api.Hard{Vote: -1, Log: api.Log{Set: three}}},
		{"a new one of one member", api.Hard{Vote: -1, Log: api.Log{Set: members(6)}}},
		{"Term 0 and a Vote", api.Hard{Vote: 3, Log: api.Log{Set: three}}},
		{"a vote", api.Hard{Term: 1, Log: api.Log{Set: three}}},
		{"a Term without a Vote", api.Hard{Term: 1, Vote: -1, Log: api.Log{Set: three}}},
		{"one entry of its Term", api.Hard{Term: 1, Vote: 1, Log: api.Log{Set: three, List: nones(1, 1)}}},
		{"one entry below its Term", api.Hard{Term: 5, Vote: 6, Log: api.Log{Set: three, List: gives(1, 4, 9)}}},
		{"all Kinds", api.Hard{Term: 5, Vote: 6, Log: api.Log{Set: three, List: mixed(1)}}},
		{"all Kinds behind a snapshot", state()},
		{"a snapshot alone", api.Hard{Term: 4, Vote: -1, Snap: "x", Log: api.Log{Base: 12, BaseTerm: 4, Set: three}}},
		{"a Base without a snapshot", api.Hard{Term: 4, Vote: -1, Log: api.Log{Base: 12, BaseTerm: 3, Set: three, List: nones(2, 4)}}},
		{"a snapshot at Base 0", api.Hard{Term: 4, Vote: -1, Snap: "\x00", Log: api.Log{Set: three, List: nones(2, 4)}}},
		{"BaseTerm at Base 0", api.Hard{Term: 2, Vote: 0, Log: api.Log{BaseTerm: 2, Set: three}}},
		{"the longest snapshot", api.Hard{Term: 9, Vote: 0, Snap: long, Log: api.Log{Base: 3, BaseTerm: 2, Set: three, List: mixed(2)}}},
		{"all great", api.Hard{Term: top, Vote: 6, Snap: "x", Log: api.Log{Base: top, BaseTerm: top, Set: numbered(127), List: gives(3, top, 1)}}},
		{"512 entries", api.Hard{Term: 3, Vote: 0, Log: api.Log{Set: three, List: gives(512, 3, 1)}}},
		{"512 entries and a snapshot", api.Hard{Term: 3, Vote: 0, Snap: long[:70000], Log: api.Log{Base: 40, BaseTerm: 1, Set: three, List: nones(512, 3)}}},
	}
	for n := -1; n < 7; n++ {
		h := state()
		h.Vote = n
		list = append(list, known[api.Hard]{fmt.Sprint("Vote ", n), h})
	}
	return list
}

// A wrong state: how to make it of one that may be, and Check's error.
type wrongState struct {
	what   string
	change func(h *api.Hard)
	err    api.Errno
}

// wrongs: changes that leave a state that may not be, for each reason.
func wrongs() (list []wrongState) {
	put := func(what string, err api.Errno, change func(h *api.Hard)) {
		list = append(list, wrongState{what, change, err})
	}
	for _, n := range []uint64{top + 1, top + 2, 1 << 41, 1 << 63, all} {
		put(fmt.Sprint("Term ", n), api.ErrStore, func(h *api.Hard) { h.Term = n })
		put(fmt.Sprint("Base ", n), api.ErrLog, func(h *api.Hard) { h.Log.Base = n })
		put(fmt.Sprint("BaseTerm ", n), api.ErrLog, func(h *api.Hard) { h.Log.BaseTerm = n })
	}
	for _, n := range []int{-2, -3, 7, 8, 256, 1 << 32, least, most} {
		put(fmt.Sprint("Vote ", n), api.ErrStore, func(h *api.Hard) { h.Vote = n })
	}
	for _, n := range []int{100001, 100002, 131073, 1 << 20} {
		put(fmt.Sprint("a Snap of ", n), api.ErrStore, func(h *api.Hard) { h.Snap = strings.Repeat("s", n) })
	}
	put("nobody in the Set", api.ErrLog, func(h *api.Hard) { h.Log.Set = api.Set{} })
	put("513 entries", api.ErrLog, func(h *api.Hard) { h.Log.List = nones(513, 4) })
	put("1100 entries", api.ErrLog, func(h *api.Hard) { h.Log.List = nones(1100, 4) })
	put("a term that goes down", api.ErrLog, func(h *api.Hard) { h.Log.List = []api.Entry{none(4), none(3)} })
	put("a term below BaseTerm", api.ErrLog, func(h *api.Hard) { h.Log.List, h.Log.BaseTerm = nones(2, 4), 5 })
	for _, e := range wrongEntries() {
		put("the first entry: "+e.what, api.ErrLog, func(h *api.Hard) { h.Log.List = append([]api.Entry{e.thing}, h.Log.List...) })
		put("the last entry: "+e.what, api.ErrLog, func(h *api.Hard) { h.Log.List = append(h.Log.List, e.thing) })
	}
	put("the last term above Term", api.ErrStore, func(h *api.Hard) { h.Term = 6 })
	put("the last term far above Term", api.ErrStore, func(h *api.Hard) { h.Term = 0 })
	put("the last term alone above Term", api.ErrStore, func(h *api.Hard) { h.Log.List = append(h.Log.List, none(10)) })
	put("BaseTerm above Term", api.ErrStore, func(h *api.Hard) { h.Log.List, h.Log.BaseTerm = nil, 10 })
	put("the greatest term above Term", api.ErrStore, func(h *api.Hard) { h.Term, h.Log.List = top-1, nones(1, top) })
	return list
}

// with: the state with a change, as new memory.
func with(h api.Hard, change func(h *api.Hard)) api.Hard {
	h = twin(h)
	change(&h)
	return h
}

// wrong: a state that may not be.
func wrong(x wrongState) api.Hard { return with(state(), x.change) }

// shortened: the state with its first n entries alone.
func shortened(h api.Hard, n int) api.Hard {
	return with(h, func(h *api.Hard) { h.Log.List = h.Log.List[:n] })
}

// put, sync, drop: disk operations.
func put(name string, at int, bytes string) api.DiskOp {
	return api.DiskOp{Kind: 1, Name: name, At: at, Bytes: bytes}
}

func sync(name string) api.DiskOp { return api.DiskOp{Kind: 2, Name: name} }

func drop(name string) api.DiskOp { return api.DiskOp{Kind: 4, Name: name} }

// frames: of records, one behind the other.
func frames(records ...string) string {
	var b strings.Builder
	for _, r := range records {
		f, e := wire.Frame(r)
		if e != api.OK {
			panic(e)
		}
		b.WriteString(f)
	}
	return b.String()
}

// diskOf: a disk that has these records alone, in one segment.
func diskOf(records ...string) api.Disk {
	return api.Disk{Files: []api.File{{Name: "r.000000", Safe: frames(records...)}}}
}

// one: one of the things.
func one[T any](r *rand.Rand, of ...T) T { return of[r.Intn(len(of))] }

// anyEntry, anyEntries: by chance, all of which may be; of this term, and from this term up to another one.
func anyEntry(r *rand.Rand, term uint64) api.Entry {
	switch r.Intn(4) {
	case 0:
		return none(term)
	case 1:
		return api.Entry{Term: term, Kind: 2, Set: numbered(1 + r.Intn(127))}
	}
	return give(term, 1+uint64(r.Intn(1000)))
}

func anyEntries(r *rand.Rand, n int, from, to uint64) (list []api.Entry) {
	for range n {
		if from = max(from, 1); from > to {
			break
		}
		from += uint64(r.Int63n(int64(min(to-from, 2)) + 1))
		list = append(list, anyEntry(r, from))
	}
	return list
}

// anyState: by chance; it may be.
func anyState(r *rand.Rand) api.Hard {
	h := api.Hard{Term: uint64(r.Intn(9)), Vote: r.Intn(8) - 1, Log: api.Log{Set: numbered(1 + r.Intn(127))}}
	if r.Intn(2) == 0 {
		h.Log.Base, h.Log.BaseTerm = one(r, uint64(r.Intn(99)), top), uint64(r.Int63n(int64(h.Term)+1))
		h.Snap = one(r, "", "a", strings.Repeat("snap", 100))
	}
	h.Log.List = anyEntries(r, r.Intn(6), h.Log.BaseTerm, h.Term)
	return h
}

// next: a state that may come behind this one, by chance.
func next(r *rand.Rand, h api.Hard) api.Hard {
	h = twin(h)
	if r.Intn(2) == 0 {
		h.Term, h.Vote = min(h.Term+uint64(r.Intn(3)), top), r.Intn(8)-1
	}
	if n := len(h.Log.List); n > 0 && r.Intn(3) == 0 {
		h.Log.List = h.Log.List[:r.Intn(n)]
	}
	if r.Intn(6) == 0 {
		h.Log.Base, h.Log.BaseTerm = min(h.Log.Base+uint64(len(h.Log.List)), top), lastTerm(h.Log)
		h.Log.List, h.Snap = nil, one(r, "b", strings.Repeat("snap", r.Intn(100)))
	}
	switch r.Intn(24) {
	case 0:
		h.Snap += "c"
	case 1:
		h.Log.Set = numbered(1 + r.Intn(127))
	}
	h.Log.List = append(h.Log.List, anyEntries(r, min(r.Intn(5), 512-len(h.Log.List)), lastTerm(h.Log), h.Term)...)
	return h
}
