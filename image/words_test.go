package image

import (
	"encoding/binary"
	"fmt"
	"reflect"
	"strings"
	"testing"

	"tandem/api"
	"tandem/machine"
)

// The head's numbers by their names, in the chapter's order.
const (
	hartNames  = "PC Mode Held At"
	csrNames   = "Mstatus Medeleg Mideleg Mie Mip Mtvec Mscratch Mepc Mcause Mtval Stvec Sscratch Sepc Scause Stval Satp"
	boardNames = "Msip Cmp Ier Sector Addr Done Bad NicAddr NicLen"
)

// How many fields stand ahead of In, and ahead of the frames.
const (
	ahead = 32 + 4 + 16 + 9 + 8
	fixed = ahead + 4
)

// named: a struct's fields of these names.
func named(v reflect.Value, names string) (list []reflect.Value) {
	for _, name := range strings.Fields(names) {
		list = append(list, v.FieldByName(name))
	}
	return list
}

// numbersBy: the places of the numbers ahead of In, as the chapter's words have them.
func numbersBy(m *api.Machine) (list []reflect.Value) {
	at := func(p any) reflect.Value { return reflect.ValueOf(p).Elem() }
	for n := range 32 {
		list = append(list, at(&m.Hart.X[n]))
	}
	list = append(list, named(at(&m.Hart), hartNames)...)
	list = append(list, named(at(&m.Hart.C), csrNames)...)
	list = append(list, named(at(&m.Board), boardNames)...)
	p := &m.Board.Plic
	for _, n := range []*uint32{&p.Prio[1], &p.Prio[2], &p.Prio[3], &p.Enable[0], &p.Enable[1], &p.Level[0], &p.Level[1], &p.Claimed} {
		list = append(list, at(n))
	}
	return list
}

func numBy(v reflect.Value) uint64 {
	switch v.Kind() {
	case reflect.Bool:
		if v.Bool() {
			return 1
		}
		return 0
	case reflect.Int:
		return uint64(v.Int())
	}
	return v.Uint()
}

// setBy: the number, if its place holds it.
func setBy(v reflect.Value, n uint64) bool {
	switch v.Kind() {
	case reflect.Bool:
		v.SetBool(n == 1)
	case reflect.Int:
		v.SetInt(int64(n))
	default:
		if v.OverflowUint(n) {
			return false
		}
		v.SetUint(n)
	}
	return numBy(v) == n
}

// eight: a number's bytes.
func eight(n uint64) string { return string(binary.LittleEndian.AppendUint64(nil, n)) }

// packBy and unpackBy: fields as bytes, and back, without the limits of chapter 1.
func packBy(fields ...string) string {
	b := binary.LittleEndian.AppendUint32(nil, uint32(len(fields)))
	for _, f := range fields {
		b = append(binary.LittleEndian.AppendUint32(b, uint32(len(f))), f...)
	}
	return string(b)
}

func unpackBy(s string) (fields []string, ok bool) {
	short := func() (n uint32) {
		if ok = len(s) > 3; ok {
			n, s = binary.LittleEndian.Uint32([]byte(s)), s[4:]
		}
		return n
	}
	for count := short(); ok && count > 0; count-- {
		n := short()
		if ok = ok && uint64(n) <= uint64(len(s)); ok {
			fields, s = append(fields, s[:n]), s[n:]
		}
	}
	return fields, ok && s == ""
}

// fieldsBy: the head's fields.
func fieldsBy(m api.Machine) (fields []string) {
	for _, v := range numbersBy(&m) {
		fields = append(fields, eight(numBy(v)))
	}
	fields = append(fields, m.Board.In, m.Board.Sectors, eight(m.Count), eight(m.Next))
	return append(fields, m.Board.Frames...)
}

// headBy, bytesBy and digestBy: as the chapter's words tell them.
func headBy(m api.Machine) (string, api.Errno) {
	if e := machine.Check(m); e != 0 {
		return "", e
	}
	return packBy(fieldsBy(m)...), 0
}

func bytesBy(m api.Machine) (string, api.Errno) {
	head, e := headBy(m)
	if e != 0 {
		return "", e
	}
	return packBy(head, string(m.Ram.Data)), 0
}

func digestBy(m api.Machine) (n uint64, e api.Errno) {
	s, e := bytesBy(m)
	n = uint64(len(s))
	for _, c := range []byte(s) {
		n *= 0x100000001b3
		n += uint64(c)
		n++
	}
	return n, e
}

// joinBy and readBy: likewise.
func joinBy(head, data string) (m api.Machine, e api.Errno) {
	fields, ok := unpackBy(head)
	if ok = ok && len(fields) >= fixed; !ok {
		return m, 170
	}
	places := append(numbersBy(&m), reflect.ValueOf(&m.Count).Elem(), reflect.ValueOf(&m.Next).Elem())
	texts := append(append([]string(nil), fields[:ahead]...), fields[ahead+2:fixed]...)
	for i, s := range texts {
		ok = ok && len(s) == 8 && setBy(places[i], binary.LittleEndian.Uint64([]byte(s)))
	}
	m.Board.In, m.Board.Sectors, m.Board.Frames = fields[ahead], fields[ahead+1], fields[fixed:]
	m.Ram = api.Ram{Data: []byte(data), Marks: make([]uint64, len(data)/256)}
	if !ok || machine.Check(m) != 0 {
		return api.Machine{}, 170
	}
	return m, 0
}

func readBy(s string) (m api.Machine, e api.Errno) {
	fields, ok := unpackBy(s)
	if !ok || len(fields) != 2 {
		return m, 170
	}
	return joinBy(fields[0], fields[1])
}

// bare: the machine without what isn't in its bytes.
func bare(m api.Machine) api.Machine {
	m = twin(m)
	m.Outs = nil
	m.Ram.Marks, m.Ram.Epoch = make([]uint64, len(m.Ram.Data)/256), 0
	return m
}

// first: where two texts differ first, and how long they are.
func first(got, want string) string {
	i := 0
	for i < len(got) && i < len(want) && got[i] == want[i] {
		i++
	}
	return fmt.Sprintf("%d bytes, want %d; the first other one is number %d", len(got), len(want), i)
}

func wantText(t *testing.T, what, got string, e api.Errno, want string, err api.Errno) {
	t.Helper()
	if e != err {
		t.Errorf("%s: error %d, want %d", what, e, err)
	}
	if got != want {
		t.Errorf("%s: %s", what, first(got, want))
	}
}

// wantWritten: Head, Bytes and Digest answer as the words tell, and leave what they are handed. It tells the bytes.
func wantWritten(t *testing.T, what string, m api.Machine) string {
	t.Helper()
	was := twin(m)
	head, e := Head(m)
	want, err := headBy(was)
	wantText(t, what+": Head", head, e, want, err)
	s, e := Bytes(m)
	want, err = bytesBy(was)
	wantText(t, what+": Bytes", s, e, want, err)
	n, e := Digest(m)
	sum, err := digestBy(was)
	if n != sum || e != err {
		t.Errorf("%s: Digest: %x, error %d, want %x, error %d", what, n, e, sum, err)
	}
	wantMachine(t, what+": what was handed in", m, was)
	return s
}

// wantAnswer: a machine and an error, beside which it is one of noughts.
func wantAnswer(t *testing.T, what string, got api.Machine, e api.Errno, want api.Machine, err api.Errno) {
	t.Helper()
	if e != err {
		t.Errorf("%s: error %d, want %d", what, e, err)
	}
	if e != 0 && !reflect.ValueOf(got).IsZero() {
		t.Errorf("%s: a machine beside an error", what)
	}
	wantMachine(t, what, got, want)
}

// wantJoin: Join answers as the words tell; what it takes is Head and memory of what it answers.
func wantJoin(t *testing.T, what, head, data string) {
	t.Helper()
	m, e := Join(head, data)
	want, err := joinBy(head, data)
	wantAnswer(t, what+": Join", m, e, want, err)
	if e != 0 {
		return
	}
	again, no := Head(m)
	if again != head || no != 0 || string(m.Ram.Data) != data {
		t.Errorf("%s: Join takes what it doesn't tell: %s, error %d", what, first(again, head), no)
	}
}

// wantRead: Read, likewise (P17.2).
func wantRead(t *testing.T, what, s string) {
	t.Helper()
	m, e := Read(s)
	want, err := readBy(s)
	wantAnswer(t, what+": Read", m, e, want, err)
	if e != 0 {
		return
	}
	if again, no := Bytes(m); again != s || no != 0 {
		t.Errorf("%s: Read takes what isn't Bytes: %s, error %d", what, first(again, s), no)
	}
}

// refused: a head and memory that Join, and Read of both, don't take, by the words neither.
func refused(t *testing.T, what, head, data string) {
	t.Helper()
	for _, call := range []func() (api.Machine, api.Errno){
		func() (api.Machine, api.Errno) { return Join(head, data) },
		func() (api.Machine, api.Errno) { return Read(packBy(head, data)) },
	} {
		if m, e := call(); e != 170 || !reflect.ValueOf(m).IsZero() {
			t.Errorf("%s: error %d, want 170, and nothing beside it", what, e)
		}
	}
	wantJoin(t, what, head, data)
}
