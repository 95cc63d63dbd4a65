package log

import (
	"fmt"
	"reflect"
	"slices"
	"testing"

	"tandem/api"
)

// An answer is all that one of the calls tells; a call leaves as nothing what it doesn't tell.
type answer struct {
	Log   api.Log
	List  []api.Entry
	Entry api.Entry
	Set   api.Set
	A, B  uint64
	N     int
	OK    bool
	Err   api.Errno
}

// Asked is all that one of the calls is handed.
type asked struct {
	Log     api.Log
	Entries []api.Entry
	Entry   api.Entry
	Set     api.Set
	Who     api.Set
	Have    [7]uint64
	Index   uint64
	Term    uint64
	Most    int
}

// A call by its name, and what the chapter's words tell of it.
type call struct {
	name        string
	call, words func(q asked) answer
}

// calls: all of the chapter's.
func calls() []call {
	return []call{
		{"Count", func(q asked) (a answer) { a.N = Count(q.Set); return a }, countBy},
		{"Entry", func(q asked) (a answer) { a.OK = Entry(q.Entry); return a }, entryBy},
		{"Check", func(q asked) (a answer) { a.Err = Check(q.Log); return a }, checkBy},
		{"Copy", func(q asked) (a answer) { a.Log = Copy(q.Log); return a }, copyBy},
		{"Last", func(q asked) (a answer) { a.A, a.B = Last(q.Log); return a }, lastBy},
		{"At", func(q asked) (a answer) { a.Entry, a.OK = At(q.Log, q.Index); return a }, atBy},
		{"TermAt", func(q asked) (a answer) { a.A, a.OK = TermAt(q.Log, q.Index); return a }, termAtBy},
		{"Members", func(q asked) (a answer) { a.Set = Members(q.Log, q.Index); return a }, membersBy},
		{"Add", func(q asked) (a answer) { a.Log, a.Err = Add(q.Log, q.Entries...); return a }, addBy},
		{"Slice", func(q asked) (a answer) { a.List = Slice(q.Log, q.Index, q.Most); return a }, sliceBy},
		{"Newer", func(q asked) (a answer) { a.OK = Newer(q.Log, q.Index, q.Term); return a }, newerBy},
		{"Accept", func(q asked) (a answer) {
			a.Log, a.A, a.OK = Accept(q.Log, q.Index, q.Term, q.Entries...)
			return a
		}, acceptBy},
		{"Shorten", func(q asked) (a answer) { a.Log, a.Err = Shorten(q.Log, q.Index); return a }, shortenBy},
		{"Majority", func(q asked) (a answer) { a.OK = Majority(q.Set, q.Who); return a }, majorityBy},
		{"Agreed", func(q asked) (a answer) { a.A = Agreed(q.Set, q.Have); return a }, agreedBy},
	}
}

// named: the call of this name.
func named(name string) call {
	for _, c := range calls() {
		if c.name == name {
			return c
		}
	}
	panic("no call " + name)
}

// twin: the same log, made apart from the program.
func twin(l api.Log) api.Log {
	l.List = append([]api.Entry(nil), l.List...)
	return l
}

// keptAsked and keptAnswer: the same, likewise.
func keptAsked(q asked) asked {
	q.Log, q.Entries = twin(q.Log), append([]api.Entry(nil), q.Entries...)
	return q
}

func keptAnswer(a answer) answer {
	a.Log, a.List = twin(a.Log), append([]api.Entry(nil), a.List...)
	return a
}

// ids: the members of a set by their numbers.
func ids(s api.Set) (list []int) {
	for i := 0; i < 7; i++ {
		if s[i] {
			list = append(list, i)
		}
	}
	return list
}

func countBy(q asked) answer { return answer{N: len(ids(q.Set))} }

// mayBe: an entry by its Kind's words; an input's are chapter 16's.
func mayBe(e api.Entry) bool {
	if e.Term == 0 || e.Term > 0x10000000000 {
		return false
	}
	in := e.Input
	nothing := in.ID == 0 && in.Gap == 0 && in.Dev == 0 && len(in.Data) == 0
	nobody := len(ids(e.Set)) == 0
	asksRight := in.ID != 0 && in.Gap > 0 && in.Gap < 65 && (in.Dev == 1 || in.Dev == 2) && len(in.Data) > 0 && len(in.Data) < 65
	return e.Kind == 0 && nothing && nobody || e.Kind == 1 && asksRight && nobody || e.Kind == 2 && nothing && !nobody
}

func entryBy(q asked) answer { return answer{OK: mayBe(q.Entry)} }

// wrongBy: may the log not be?
func wrongBy(l api.Log) bool {
	wrong := l.Base > 0x10000000000 || l.BaseTerm > 0x10000000000 || len(ids(l.Set)) == 0 || len(l.List) > 512
	terms := []uint64{l.BaseTerm}
	for _, e := range l.List {
		wrong = wrong || !mayBe(e)
		terms = append(terms, e.Term)
	}
	return wrong || !slices.IsSorted(terms)
}

func checkBy(q asked) (a answer) {
	if wrongBy(q.Log) {
		a.Err = 190
	}
	return a
}

func copyBy(q asked) answer { return answer{Log: twin(q.Log)} }

// places: the entries by their indexes.
func places(l api.Log) map[uint64]api.Entry {
	m := map[uint64]api.Entry{}
	for i, e := range l.List {
		m[l.Base+1+uint64(i)] = e
	}
	return m
}

func lastBy(q asked) answer {
	a := answer{A: q.Log.Base, B: q.Log.BaseTerm}
	for _, e := range q.Log.List {
		a.A, a.B = a.A+1, e.Term
	}
	return a
}

func atBy(q asked) (a answer) {
	a.Entry, a.OK = places(q.Log)[q.Index]
	return a
}

func termAtBy(q asked) answer {
	if q.Index == q.Log.Base {
		return answer{A: q.Log.BaseTerm, OK: true}
	}
	e, ok := places(q.Log)[q.Index]
	return answer{A: e.Term, OK: ok}
}

func membersBy(q asked) answer {
	a := answer{Set: q.Log.Set}
	for i, e := range q.Log.List {
		if q.Log.Base+1+uint64(i) <= q.Index && e.Kind == 2 {
			a.Set = e.Set
		}
	}
	return a
}

func addBy(q asked) answer {
	longer := twin(q.Log)
	for _, e := range q.Entries {
		longer.List = append(longer.List, e)
	}
	if len(longer.List) > 512 {
		return answer{Err: 4}
	}
	if wrongBy(longer) {
		return answer{Err: 190}
	}
	return answer{Log: longer}
}

func sliceBy(q asked) (a answer) {
	m := places(q.Log)
	for at := q.Index; len(a.List) < q.Most; at++ {
		e, ok := m[at]
		if !ok {
			break
		}
		a.List = append(a.List, e)
	}
	return a
}

func newerBy(q asked) answer {
	last := lastBy(q)
	if q.Term != last.B {
		return answer{OK: q.Term > last.B}
	}
	return answer{OK: !(q.Index < last.A)}
}

// acceptBy: entry by entry, each at its place of a map.
func acceptBy(q asked) answer {
	l, prev := q.Log, q.Index
	if prev > lastBy(q).A || prev > 0x10000000000 || len(q.Entries) > 512 {
		return answer{}
	}
	if there := termAtBy(q); prev >= l.Base && (!there.OK || there.A != q.Term) {
		return answer{}
	}
	m := places(l)
	for i, e := range q.Entries {
		place := prev + 1 + uint64(i)
		old, ok := m[place]
		if place <= l.Base || ok && old.Term == e.Term {
			continue
		}
		for at := place; ok; at++ {
			delete(m, at)
			_, ok = m[at+1]
		}
		m[place] = e
	}
	l.List = nil
	for at := l.Base + 1; ; at++ {
		e, ok := m[at]
		if !ok {
			break
		}
		l.List = append(l.List, e)
	}
	if wrongBy(l) {
		return answer{}
	}
	return answer{Log: l, A: prev + uint64(len(q.Entries)), OK: true}
}

func shortenBy(q asked) answer {
	there := termAtBy(q)
	if !there.OK {
		return answer{Err: 190}
	}
	l := api.Log{Base: q.Index, BaseTerm: there.A, Set: membersBy(q).Set}
	for i, e := range q.Log.List {
		if q.Log.Base+1+uint64(i) > q.Index {
			l.List = append(l.List, e)
		}
	}
	return answer{Log: l}
}

func majorityBy(q asked) answer {
	here, away := 0, 0
	for _, i := range ids(q.Set) {
		if q.Who[i] {
			here++
		} else {
			away++
		}
	}
	return answer{OK: here > away}
}

// agreedBy: of the members' numbers, the greatest first, the one that is just behind the middle.
func agreedBy(q asked) answer {
	var list []uint64
	for _, i := range ids(q.Set) {
		list = append(list, q.Have[i])
	}
	slices.Sort(list)
	slices.Reverse(list)
	if len(list) == 0 {
		return answer{}
	}
	return answer{A: list[len(list)/2]}
}

// unlike: what differs, by its name; a list that holds nothing may be nil or empty.
func unlike(name string, got, want reflect.Value) (s string) {
	if got.Kind() == reflect.Struct && got.Type() != reflect.TypeFor[api.Entry]() {
		for i := range got.NumField() {
			s += unlike(name+"."+got.Type().Field(i).Name, got.Field(i), want.Field(i))
		}
		return s
	}
	if got.Kind() == reflect.Slice && got.Len() == 0 && want.Len() == 0 {
		return ""
	}
	if reflect.DeepEqual(got.Interface(), want.Interface()) {
		return ""
	}
	return fmt.Sprintf("\n\t%s: %.200s, want %.200s", name, fmt.Sprintf("%+v", got), fmt.Sprintf("%+v", want))
}

// wantLike: two answers, or parts of them, are the same.
func wantLike[T any](t *testing.T, what string, got, want T) {
	t.Helper()
	if s := unlike("", reflect.ValueOf(got), reflect.ValueOf(want)); s != "" {
		t.Errorf("%s:%s", what, s)
	}
}

// wantCall: a call answers as the words tell, and leaves what it is handed.
func wantCall(t *testing.T, what, name string, q asked) answer {
	t.Helper()
	c, was := named(name), keptAsked(q)
	got := c.call(q)
	wantLike(t, what+": "+name, got, c.words(keptAsked(was)))
	wantLike(t, what+": what "+name+" was handed", q, was)
	return got
}

// wantErr: the answer is this error, and nothing beside it.
func wantErr(t *testing.T, what string, got answer, want api.Errno) {
	t.Helper()
	wantLike(t, what, got, answer{Err: want})
}

func wantEntry(t *testing.T, what string, e api.Entry) bool {
	t.Helper()
	return wantCall(t, what, "Entry", asked{Entry: e}).OK
}

func wantCheck(t *testing.T, what string, l api.Log) api.Errno {
	t.Helper()
	return wantCall(t, what, "Check", asked{Log: l}).Err
}

func wantAdd(t *testing.T, what string, l api.Log, entries ...api.Entry) answer {
	t.Helper()
	return wantCall(t, what, "Add", asked{Log: l, Entries: entries})
}

// wantAccept: likewise, and what it tells of a log that may be is as P19.2 asks.
func wantAccept(t *testing.T, what string, l api.Log, prev, term uint64, entries ...api.Entry) answer {
	t.Helper()
	got := wantCall(t, what, "Accept", asked{Log: l, Index: prev, Term: term, Entries: entries})
	if !got.OK {
		wantLike(t, what+": Accept tells false", got, answer{})
	} else if !wrongBy(l) {
		wantMatched(t, what, l, got, prev, term, entries)
	}
	return got
}

// wantMatched: P19.2 of an answer of Accept.
func wantMatched(t *testing.T, what string, l api.Log, got answer, prev, term uint64, entries []api.Entry) {
	t.Helper()
	if Check(got.Log) != 0 {
		t.Errorf("%s: Accept of a log that may be tells one that may not", what)
	}
	was, now := places(l), places(got.Log)
	for i, e := range entries {
		at := prev + 1 + uint64(i)
		if at > l.Base && now[at].Term != e.Term {
			t.Errorf("%s: term %d stands at %d, want %d", what, now[at].Term, at, e.Term)
		}
	}
	last := lastBy(asked{Log: l}).A
	if prev > last {
		t.Errorf("%s: taken behind %d, the last index is %d", what, prev, last)
	}
	for at := l.Base + 1; at <= min(prev, last); at++ {
		if now[at] != was[at] {
			t.Errorf("%s: another entry at %d, ahead of %d", what, at, prev+1)
		}
	}
	head := got.Log
	head.List = l.List
	wantLike(t, what+": Base, BaseTerm and Set", head, l)
	again := named("Accept").call(asked{Log: got.Log, Index: prev, Term: term, Entries: entries})
	wantLike(t, what+": Accept of the same again", again, got)
}

// wantShorten: likewise, and what it tells of a log that may be is as P19.3 asks.
func wantShorten(t *testing.T, what string, l api.Log, index uint64) answer {
	t.Helper()
	got := wantCall(t, what, "Shorten", asked{Log: l, Index: index})
	if got.Err != 0 {
		wantErr(t, what+": Shorten", got, 190)
	} else if !wrongBy(l) {
		wantKept(t, what, l, got.Log)
	}
	return got
}

// wantKept: P19.3 of an answer of Shorten.
func wantKept(t *testing.T, what string, l, got api.Log) {
	t.Helper()
	name := what + ": a shortened log's "
	wantLike(t, name+"Last", named("Last").call(asked{Log: got}), named("Last").call(asked{Log: l}))
	last, _ := Last(l)
	for _, at := range append(around(got.Base, last), last+1, last+2, all-1, all) {
		if at < got.Base {
			continue
		}
		q, r := asked{Log: got, Index: at}, asked{Log: l, Index: at}
		name := fmt.Sprint(name, "index ", at, ", ")
		wantLike(t, name+"TermAt", named("TermAt").call(q), named("TermAt").call(r))
		wantLike(t, name+"Members", named("Members").call(q), named("Members").call(r))
		// At Base itself there is no entry any more.
		if at > got.Base {
			wantLike(t, name+"At", named("At").call(q), named("At").call(r))
		}
	}
}

// wantAt: all calls that are asked of a log and an index.
func wantAt(t *testing.T, what string, l api.Log, index uint64) {
	t.Helper()
	what = fmt.Sprint(what, ", index ", index)
	q := asked{Log: l, Index: index}
	at := wantCall(t, what, "At", q)
	if !at.OK {
		wantLike(t, what+": At tells false", at, answer{})
	}
	if term := wantCall(t, what, "TermAt", q); !term.OK {
		wantLike(t, what+": TermAt tells false", term, answer{})
	}
	wantCall(t, what, "Members", q)
	wantShorten(t, what, l, index)
	for _, q.Term = range []uint64{0, 1, l.BaseTerm - 1, l.BaseTerm, l.BaseTerm + 1, lastBy(q).B - 1, lastBy(q).B, lastBy(q).B + 1, all} {
		wantCall(t, fmt.Sprint(what, ", term ", q.Term), "Newer", q)
	}
	for _, q.Most = range []int{least, -1, 0, 1, 2, 3, 4, 5, 511, 512, 513, most} {
		wantCall(t, fmt.Sprint(what, ", most ", q.Most), "Slice", q)
	}
}
