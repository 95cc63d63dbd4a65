package log

import (
	"fmt"
	"math"
	"math/rand"
	"strings"

	"tandem/api"
)

const (
	all   = math.MaxUint64
	least = math.MinInt
	most  = math.MaxInt
	top   = 1 << 40 // the greatest Term, Base and prev
)

// members: the set of these.
func members(list ...int) (s api.Set) {
	for _, i := range list {
		s[i] = true
	}
	return s
}

// numbered: the set whose members are the number's bits.
func numbered(n int) (s api.Set) {
	for i := range s {
		s[i] = n>>i&1 == 1
	}
	return s
}

func none(term uint64) api.Entry { return api.Entry{Term: term} }

func give(term, id uint64) api.Entry {
	in := api.Input{ID: id, Gap: int(id%64) + 1, Dev: int(id%2) + 1, Data: strings.Repeat("i", int(id%64)+1)}
	return api.Entry{Term: term, Kind: 1, Input: in}
}

func config(term uint64, list ...int) api.Entry {
	return api.Entry{Term: term, Kind: 2, Set: members(list...)}
}

// nones: so many entries of one term.
func nones(n int, term uint64) []api.Entry {
	list := make([]api.Entry, n)
	for i := range list {
		list[i] = none(term)
	}
	return list
}

// terms: None entries of these terms.
func terms(list ...uint64) (entries []api.Entry) {
	for _, term := range list {
		entries = append(entries, none(term))
	}
	return entries
}

// mixed: entries of all three Kinds and of four terms, from this one on; their members change three times.
func mixed(term uint64) []api.Entry {
	return []api.Entry{
		none(term), give(term, 1), config(term, 0, 1, 2), give(term+1, 7), give(term+1, all), config(term+3, 0, 1), none(term + 3),
		give(term+3, 64), config(term+4, 0, 1, 2, 3, 4, 5, 6), give(term+4, 2),
	}
}

// A known log.
type knownLog struct {
	what string
	log  api.Log
}

// rights: logs that may be.
func rights() []knownLog {
	three := members(0, 1, 2)
	return []knownLog{
		{"no entries, Base 0", api.Log{Set: three}},
		{"no entries, Base 9", api.Log{Base: 9, BaseTerm: 4, Set: three}},
		{"no entries, Base 9 of term 0", api.Log{Base: 9, Set: members(6)}},
		{"one entry", api.Log{Set: members(0), List: []api.Entry{none(1)}}},
		{"one entry behind 5", api.Log{Base: 5, BaseTerm: 2, Set: members(1, 2), List: []api.Entry{give(2, 3)}}},
		{"all Kinds", api.Log{Set: three, List: mixed(1)}},
		{"all Kinds behind 7", api.Log{Base: 7, BaseTerm: 3, Set: members(3, 5), List: mixed(3)}},
		{"all Kinds behind 100, a later term", api.Log{Base: 100, BaseTerm: 3, Set: members(3), List: mixed(8)}},
		{"BaseTerm at Base 0", api.Log{BaseTerm: 2, Set: three, List: terms(2, 3)}},
		{"Configs alone", api.Log{Base: 2, BaseTerm: 1, Set: three, List: []api.Entry{config(1, 0), config(1, 0, 1), config(2, 1)}}},
		{"the greatest Base", api.Log{Base: top, BaseTerm: 5, Set: three, List: mixed(6)}},
		{"the greatest Base, no entries", api.Log{Base: top, BaseTerm: top, Set: three}},
		{"a great Base", api.Log{Base: top - 3, BaseTerm: 5, Set: three, List: mixed(5)}},
		{"the greatest terms", api.Log{Base: 3, BaseTerm: top, Set: three, List: terms(top, top)}},
		{"up to the greatest term", api.Log{Set: three, List: terms(1, top-1, top)}},
		{"511 entries", api.Log{Base: 40, BaseTerm: 1, Set: three, List: append(mixed(1), nones(501, 6)...)}},
		{"512 entries", api.Log{Set: three, List: append(nones(502, 3), mixed(3)...)}},
		{"512 entries behind the greatest Base", api.Log{Base: top, Set: three, List: append(mixed(1), nones(502, 9)...)}},
		{"all seven", api.Log{Set: members(0, 1, 2, 3, 4, 5, 6), List: []api.Entry{give(2, 2)}}},
	}
}

// A wrong entry, by its reason.
type wrongEntry struct {
	what  string
	entry api.Entry
}

// wrongEntries: those that may not be, for each reason, alone and together; their Terms are 3 where that isn't the reason.
func wrongEntries() (list []wrongEntry) {
	put := func(what string, e api.Entry) { list = append(list, wrongEntry{what, e}) }
	for _, e := range []api.Entry{none(3), give(3, 5), config(3, 0, 1)} {
		for _, term := range []uint64{0, top + 1, top + 2, 1 << 41, 1 << 63, all} {
			f := e
			f.Term = term
			put(fmt.Sprintf("Kind %d of term %d", e.Kind, term), f)
		}
		for _, kind := range []int{-1, 3, 4, 256, 1 << 32, 1<<32 + 1, 1<<32 + 2, least, most} {
			f := e
			f.Kind = kind
			put(fmt.Sprintf("Kind %d that is %d", e.Kind, kind), f)
		}
		for other := range 3 {
			f := e
			if f.Kind = other; other != e.Kind {
				put(fmt.Sprintf("Kind %d that is %d", e.Kind, other), f)
			}
		}
	}
	for kind, e := range map[string]api.Entry{"None": none(3), "Config": config(3, 1)} {
		for what, in := range map[string]api.Input{
			"an ID": {ID: 1}, "the greatest ID": {ID: all}, "a Gap": {Gap: 1}, "a Gap below 0": {Gap: -1}, "a Dev": {Dev: 1}, "a Dev below 0": {Dev: -1},
			"Data": {Data: "x"}, "a nought": {Data: "\x00"}, "an Input": give(3, 5).Input,
		} {
			f := e
			f.Input = in
			put(kind+" with "+what, f)
		}
	}
	for i := range 7 {
		f, g := none(3), give(3, 5)
		f.Set[i], g.Set[i] = true, true
		put(fmt.Sprint("None with member ", i), f)
		put(fmt.Sprint("Give with member ", i), g)
	}
	put("Config without a member", config(3))
	for what, change := range wrongInputs() {
		f := give(3, 5)
		change(&f.Input)
		put("Give: "+what, f)
	}
	put("nothing", api.Entry{})
	return list
}

// wrongInputs: what makes an input one that may not be in an entry.
func wrongInputs() map[string]func(in *api.Input) {
	list := map[string]func(in *api.Input){
		"ID 0": func(in *api.Input) { in.ID = 0 }, "no Input": func(in *api.Input) { *in = api.Input{} },
		"an ID alone": func(in *api.Input) { *in = api.Input{ID: 1} },
	}
	for _, n := range []int{0, -1, 65, 66, 1<<32 + 1, least, most} {
		list[fmt.Sprint("Gap ", n)] = func(in *api.Input) { in.Gap = n }
	}
	for _, n := range []int{0, -1, 3, 4, 1<<32 + 1, least, most} {
		list[fmt.Sprint("Dev ", n)] = func(in *api.Input) { in.Dev = n }
	}
	for _, n := range []int{0, 65, 66, 256, 1 << 17} {
		list[fmt.Sprint(n, " bytes")] = func(in *api.Input) { in.Data = strings.Repeat("x", n) }
	}
	return list
}

// A change of a log that may be into one that may not.
type change struct {
	what   string
	change func(l *api.Log)
}

// wrongs: for each reason, of a log with entries of the terms from 3 to 7 and BaseTerm 3 or below.
func wrongs() []change {
	list := []change{
		{"Base just above", func(l *api.Log) { l.Base = top + 1 }},
		{"Base 2^60", func(l *api.Log) { l.Base = 1 << 60 }},
		{"BaseTerm just above", func(l *api.Log) { l.BaseTerm = top + 1 }},
		{"BaseTerm just above, no entries", func(l *api.Log) { l.BaseTerm, l.List = top+1, nil }},
		{"the greatest BaseTerm, no entries", func(l *api.Log) { l.BaseTerm, l.List = all, nil }},
		{"no member", func(l *api.Log) { l.Set = api.Set{} }},
		{"no member, a Config first", func(l *api.Log) { l.Set, l.List = api.Set{}, []api.Entry{config(3, 0)} }},
		{"513 entries", func(l *api.Log) { l.List = append(nones(503, 3), l.List...) }},
		{"1000 entries", func(l *api.Log) { l.List = append(l.List, nones(990, 7)...) }},
		{"a term below BaseTerm", func(l *api.Log) { l.BaseTerm = 4 }},
		{"one term below BaseTerm", func(l *api.Log) { l.BaseTerm, l.List = 9, terms(8) }},
		{"a term that goes down at the end", func(l *api.Log) { l.List = append(l.List, none(6)) }},
		{"a term that goes down and up", func(l *api.Log) { l.List[2].Term = 9 }},
		{"a term that goes down at once", func(l *api.Log) { l.List[0].Term = 4 }},
		{"a term that goes down in a Config", func(l *api.Log) { l.List = append(l.List, config(5, 0)) }},
	}
	for _, x := range wrongEntries() {
		for _, at := range []int{0, 5, 9} {
			list = append(list, change{fmt.Sprintf("%s at %d", x.what, at), func(l *api.Log) { l.List[at] = x.entry }})
		}
	}
	return list
}

// changed: a log that may not be, by one of these.
func changed(x change) api.Log {
	l := api.Log{Base: 7, BaseTerm: 3, Set: members(0, 2), List: mixed(3)}
	x.change(&l)
	return l
}

// around: Base and the first places behind it, the last ones and some between.
func around(base, last uint64) (list []uint64) {
	for at := base; at <= last; at++ {
		if at < base+12 || at+3 > last || at%97 == 0 {
			list = append(list, at)
		}
	}
	return list
}

// indexes: places within the log, all of a short one, and those that it has not.
func indexes(l api.Log) []uint64 {
	last := lastBy(asked{Log: l}).A
	list := append(around(l.Base, last), last+1, last+2, 0, 1, 2, top-1, top, top+1, 1<<41, 1<<60, 1<<63, all-1, all)
	for n := uint64(1); n < 4 && n <= l.Base; n++ {
		list = append(list, l.Base-n)
	}
	return list
}

// anySet, anyEntry, anyLog: by chance; most of them may be.
func anySet(r *rand.Rand) api.Set { return numbered(1 + r.Intn(127)) }

func anyEntry(r *rand.Rand, term uint64) api.Entry {
	switch r.Intn(4) {
	case 0:
		return none(term)
	case 1:
		return api.Entry{Term: term, Kind: 2, Set: anySet(r)}
	}
	return give(term, 1+uint64(r.Intn(1000)))
}

// anyEntries: so many, from this term on, which goes up now and then.
func anyEntries(r *rand.Rand, n int, term uint64) (list []api.Entry) {
	for range n {
		if r.Intn(3) == 0 {
			term += uint64(r.Intn(3))
		}
		list = append(list, anyEntry(r, max(term, 1)))
	}
	return list
}

func anyLog(r *rand.Rand) api.Log {
	l := api.Log{Base: uint64(r.Intn(12)), BaseTerm: uint64(r.Intn(4)), Set: anySet(r)}
	if r.Intn(8) == 0 {
		l.Base = top - uint64(r.Intn(8))
	}
	l.List = anyEntries(r, r.Intn(12), l.BaseTerm)
	return l
}

// spoilt: a log that may not be, most times.
func spoilt(r *rand.Rand, l api.Log) api.Log {
	l = twin(l)
	if n := len(l.List); n > 0 && r.Intn(3) > 0 {
		bad := wrongEntries()
		l.List[r.Intn(n)] = bad[r.Intn(len(bad))].entry
		return l
	}
	switch r.Intn(4) {
	case 0:
		l.Set = api.Set{}
	case 1:
		l.BaseTerm = top + uint64(r.Intn(3))
	case 2:
		l.Base = top + uint64(r.Intn(3))
	default:
		l.List = append(l.List, none(uint64(r.Intn(3))))
	}
	return l
}

// branch: a beginning of the log, and entries behind it of this term and each second one from it on; so two branches with
// unlike terms have the same entries wherever they have the same term.
func branch(r *rand.Rand, l api.Log, term uint64) api.Log {
	l = twin(l)
	l.List = l.List[:r.Intn(len(l.List)+1)]
	for range r.Intn(8) {
		term += 2 * uint64(r.Intn(2))
		l.List = append(l.List, anyEntry(r, term))
	}
	return l
}
