package store

import (
	"tandem/api"
	"tandem/log"
	"tandem/wire"
)

// The kinds of records, by their first fields.
const (
	voteRecord  = "h"
	cutRecord   = "c"
	entryRecord = "e"
	stateRecord = "s"
)

// head: the fields that a record of a vote is, and one of a whole state begins with. A Vote for nobody is 0 there.
func head(kind string, h api.Hard) []string {
	return append([]string{kind}, nums(h.Term, uint64(h.Vote+1))...)
}

// whole: the record that holds all of the state.
func whole(h api.Hard) (string, api.Errno) {
	list, err := entryFields(h.Log.List...)
	if err != api.OK {
		return "", err
	}
	fields := append(head(stateRecord, h), nums(h.Log.Base, h.Log.BaseTerm)...)
	fields = append(fields, setBytes(h.Log.Set), h.Snap)
	return wire.Pack(append(fields, list...)...)
}

// changes: the records that make the new state of the old one, where both logs begin at the same place.
func changes(was, now api.Hard) ([]string, api.Errno) {
	k := shared(was.Log.List, now.Log.List)
	list, err := entryFields(now.Log.List[k:]...)
	if err != api.OK {
		return nil, err
	}
	var rows [][]string
	// The vote's comes first: the entries may be of its Term.
	if was.Term != now.Term || was.Vote != now.Vote {
		rows = append(rows, head(voteRecord, now))
	}
	index := now.Log.Base + uint64(k)
	if len(was.Log.List) > k {
		rows = append(rows, []string{cutRecord, wire.Num(index)})
	}
	for _, e := range list {
		index++
		rows = append(rows, []string{entryRecord, wire.Num(index), e})
	}
	return packs(rows...)
}

// shared: how many first entries both lists have.
func shared(a, b []api.Entry) int {
	k := 0
	for k < len(a) && k < len(b) && a[k] == b[k] {
		k++
	}
	return k
}

// packs: each row of fields as one string.
func packs(rows ...[]string) ([]string, api.Errno) {
	list := make([]string, 0, len(rows))
	for _, fields := range rows {
		s, err := wire.Pack(fields...)
		if err != api.OK {
			return nil, err
		}
		list = append(list, s)
	}
	return list, api.OK
}

// play: the state behind one record; false: the record may not be, or leaves a state that may not be. The list has to be
// the caller's own, for what comes behind it is put into it.
func play(h api.Hard, record string) (api.Hard, bool) {
	r := unpack(record)
	switch r.text() {
	case voteRecord:
		h.Term, h.Vote = r.num(), r.small()-1
	case cutRecord:
		index := r.num()
		if _, ok := log.TermAt(h.Log, index); !ok {
			return api.Hard{}, false
		}
		h.Log.List = h.Log.List[:index-h.Log.Base]
	case entryRecord:
		if last, _ := log.Last(h.Log); r.num() != last+1 {
			return api.Hard{}, false
		}
		h.Log.List = append(h.Log.List, r.entry())
	case stateRecord:
		h = api.Hard{Term: r.num(), Vote: r.small() - 1}
		h.Log = api.Log{Base: r.num(), BaseTerm: r.num(), Set: r.set()}
		h.Snap, h.Log.List = r.text(), r.entries()
	default:
		return api.Hard{}, false
	}
	if !r.done() || Check(h) != api.OK {
		return api.Hard{}, false
	}
	return h, true
}
