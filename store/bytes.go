package store

import (
	"math"

	"tandem/api"
	"tandem/log"
	"tandem/wire"
)

// Entry: the entry's bytes.
func Entry(e api.Entry) (string, api.Errno) {
	if !log.Entry(e) {
		return "", api.ErrArg
	}
	fields := nums(e.Term, uint64(e.Kind), e.Input.ID, uint64(e.Input.Gap), uint64(e.Input.Dev))
	return wire.Pack(append(fields, e.Input.Data, setBytes(e.Set))...)
}

// ReadEntry: the entry of its bytes.
func ReadEntry(s string) (api.Entry, api.Errno) {
	r := unpack(s)
	e := api.Entry{Term: r.num(), Kind: r.small()}
	e.Input = api.Input{ID: r.num(), Gap: r.small(), Dev: r.small(), Data: r.text()}
	e.Set = r.set()
	if !r.done() || !log.Entry(e) {
		return api.Entry{}, api.ErrBytes
	}
	return e, api.OK
}

// Message: the message's bytes.
func Message(m api.Msg) (string, api.Errno) {
	if !messageSound(m) {
		return "", api.ErrArg
	}
	list, err := entryFields(m.List...)
	if err != api.OK {
		return "", err
	}
	fields := nums(uint64(m.Kind), uint64(m.From), m.Term, m.Index, m.Was, flag(m.OK), m.Done, m.Mark)
	fields = append(fields, setBytes(m.Set), m.Snap)
	return wire.Pack(append(fields, list...)...)
}

// ReadMessage: the message of its bytes.
func ReadMessage(s string) (api.Msg, api.Errno) {
	r := unpack(s)
	m := api.Msg{Kind: r.small(), From: r.small(), Term: r.num(), Index: r.num(), Was: r.num(), OK: r.flag()}
	m.Done, m.Mark = r.num(), r.num()
	m.Set, m.Snap, m.List = r.set(), r.text(), r.entries()
	if !r.done() || !messageSound(m) {
		return api.Msg{}, api.ErrBytes
	}
	return m, api.OK
}

// messageSound: is all of the message as it may be, but what its entries are?
func messageSound(m api.Msg) bool {
	if m.Kind < api.AskVote || m.Kind > api.SayThere || m.From < 0 || m.From >= api.MaxMembers {
		return false
	}
	if m.Term < 1 || max(m.Term, m.Index, m.Was, m.Done) > greatest {
		return false
	}
	return len(m.List) <= api.MaxAppend && len(m.Snap) <= maxSnap
}

// nums: a field of each number.
func nums(list ...uint64) []string {
	fields := make([]string, 0, len(list))
	for _, n := range list {
		fields = append(fields, wire.Num(n))
	}
	return fields
}

// entryFields: a field of each entry; Entry's error, where one may not be.
func entryFields(list ...api.Entry) ([]string, api.Errno) {
	fields := make([]string, 0, len(list))
	for _, e := range list {
		s, err := Entry(e)
		if err != api.OK {
			return nil, err
		}
		fields = append(fields, s)
	}
	return fields, api.OK
}

// setBytes: a byte of each member that may be.
func setBytes(s api.Set) string {
	var b [api.MaxMembers]byte
	for i, in := range s {
		b[i] = byte(flag(in))
	}
	return string(b[:])
}

// flag: 1 or 0.
func flag(is bool) uint64 {
	if is {
		return 1
	}
	return 0
}

// reader takes the fields of bytes one by one. Once one of them isn't there, or isn't what it is taken for, wrong stays true.
type reader struct {
	fields []string
	wrong  bool
}

// unpack: the reader of the fields of s.
func unpack(s string) *reader {
	fields, err := wire.Unpack(s)
	return &reader{fields: fields, wrong: err != api.OK}
}

// text: the next field as it is.
func (r *reader) text() string {
	if len(r.fields) == 0 {
		r.wrong = true
		return ""
	}
	s := r.fields[0]
	r.fields = r.fields[1:]
	return s
}

// num: the next field as a number.
func (r *reader) num() uint64 {
	n, err := wire.ReadNum(r.text())
	if err != api.OK {
		r.wrong = true
	}
	return n
}

// small: the next field as a number that an int has room for, whatever the size of an int.
func (r *reader) small() int {
	n := r.num()
	if n > math.MaxInt32 {
		r.wrong = true
		return 0
	}
	return int(n)
}

// flag: the next field as a number that is 0 or 1.
func (r *reader) flag() bool {
	n := r.num()
	if n > 1 {
		r.wrong = true
	}
	return n == 1
}

// set: the next field as a set's bytes.
func (r *reader) set() api.Set {
	var set api.Set
	s := r.text()
	if len(s) != len(set) {
		r.wrong = true
		return api.Set{}
	}
	for i := range set {
		if s[i] > 1 {
			r.wrong = true
		}
		set[i] = s[i] == 1
	}
	return set
}

// entry: the next field as an entry's bytes.
func (r *reader) entry() api.Entry {
	e, err := ReadEntry(r.text())
	if err != api.OK {
		r.wrong = true
	}
	return e
}

// entries: all that is left, each field as an entry's bytes.
func (r *reader) entries() []api.Entry {
	var list []api.Entry
	for len(r.fields) > 0 {
		list = append(list, r.entry())
	}
	return list
}

// done: was each field what it was taken for, and is none left?
func (r *reader) done() bool { return !r.wrong && len(r.fields) == 0 }
