package image

import (
	"fmt"
	"maps"
	"math/rand"
	"slices"
	"strings"
	"testing"

	"tandem/api"
	"tandem/machine"
)

// known: a right machine whose numbers are all told apart, but for the flags.
func known() api.Machine {
	m := api.Machine{
		Hart: api.Hart{PC: 200, Mode: 1, Held: true, At: 203, C: api.Csr{
			Mstatus: 0x20, Medeleg: 0x1ff, Mideleg: 0x202, Mie: 0x888, Mip: 0x222,
			Mtvec: 0x305, Mscratch: 0x340, Mepc: 0x342, Mcause: 0x344, Mtval: 0x346,
			Stvec: 0x405, Sscratch: 0x440, Sepc: 0x442, Scause: 0x444, Stval: 0x446, Satp: 0x8000000000000447,
		}},
		Board: api.Board{
			Msip: true, Cmp: 502, Sector: 504, Addr: 505, Done: true, NicAddr: 508, NicLen: 509,
			Plic: api.Plic{Prio: [4]uint32{0, 1, 2, 3}, Enable: [2]uint32{4, 6}, Level: [2]uint32{5, 7}, Claimed: 8},
			In:   "waiting", Frames: []string{"one", "", "three"},
		},
		Count: 700, Next: 41,
	}
	for n := 1; n < 32; n++ {
		m.Hart.X[n] = 100 + uint64(n)
	}
	for i := range 1024 {
		m.Board.Sectors += string([]byte{byte(i)})
	}
	for i := range 768 {
		m.Ram.Data = append(m.Ram.Data, ^byte(i))
	}
	m.Ram.Marks = make([]uint64, 3)
	return m
}

// knownNumbers: what stands ahead of In in its head.
func knownNumbers() []uint64 {
	list := []uint64{0}
	for n := uint64(101); n < 132; n++ {
		list = append(list, n)
	}
	return append(list, 200, 1, 1, 203,
		0x20, 0x1ff, 0x202, 0x888, 0x222, 0x305, 0x340, 0x342, 0x344, 0x346, 0x405, 0x440, 0x442, 0x444, 0x446, 0x8000000000000447,
		1, 502, 0, 504, 505, 1, 0, 508, 509,
		1, 2, 3, 4, 6, 5, 7, 8)
}

// field: a field's length and bytes.
func field(s string) string { return string([]byte{byte(len(s)), byte(len(s) >> 8), 0, 0}) + s }

// P17.1: the head and the bytes of a known machine, by hand.
func TestKnownHead(t *testing.T) {
	m := known()
	want := "\x4c\x00\x00\x00"
	for _, n := range knownNumbers() {
		want += "\x08\x00\x00\x00" + eight(n)
	}
	want += field("waiting") + field(m.Board.Sectors) + field(eight(700)) + field(eight(41))
	want += "\x03\x00\x00\x00one\x00\x00\x00\x00\x05\x00\x00\x00three"
	head, e := Head(m)
	wantText(t, "Head", head, e, want, 0)
	s, e := Bytes(m)
	wantText(t, "Bytes", s, e, "\x02\x00\x00\x00"+field(want)+field(string(m.Ram.Data)), 0)
	if n, e := Digest(m); n != 0xf54e9d40a1faac98 || e != 0 {
		t.Errorf("Digest: %x, error %d", n, e)
	}
	read, e := Read(s)
	wantAnswer(t, "Read", read, e, m, 0)
	joined, e := Join(head, string(m.Ram.Data))
	wantAnswer(t, "Join", joined, e, m, 0)
}

// P17.1: new machines, by hand; the chapter's example.
func TestKnownNew(t *testing.T) {
	number := func(n string) string { return "\x08\x00\x00\x00" + n }
	nought := number(strings.Repeat("\x00", 8))
	head := "\x49\x00\x00\x00" + strings.Repeat(nought, 32) + number("\x00\x00\x00\x80\x00\x00\x00\x00") + number("\x03\x00\x00\x00\x00\x00\x00\x00") +
		strings.Repeat(nought, 2+16+1) + number(strings.Repeat("\xff", 8)) + strings.Repeat(nought, 7+8) +
		"\x00\x00\x00\x00" + "\x00\x04\x00\x00" + strings.Repeat("\x00", 1024) + nought + nought
	for _, x := range []struct {
		leaves int
		size   string
		digest uint64
	}{
		{1, "\x00\x01\x00\x00", 0xecef5c28b7c600a2},
		{256, "\x00\x00\x01\x00", 0x1f6da318a83c142c},
	} {
		m, _ := machine.New("", x.leaves)
		got, e := Head(m)
		wantText(t, "Head", got, e, head, 0)
		want := "\x02\x00\x00\x00" + "\x60\x07\x00\x00" + head + x.size + strings.Repeat("\x00", 256*x.leaves)
		s, e := Bytes(m)
		wantText(t, "Bytes", s, e, want, 0)
		if len(s) != 4+4+len(got)+4+256*x.leaves {
			t.Errorf("%d leaves: %d bytes", x.leaves, len(s))
		}
		if n, e := Digest(m); n != x.digest || e != 0 {
			t.Errorf("%d leaves: Digest %x, error %d", x.leaves, n, e)
		}
		read, e := Read(want)
		wantAnswer(t, "Read", read, e, m, 0)
	}
	two, _ := machine.New("ab", 2)
	if n, e := Digest(two); n != 0xee41f9c09aa07df8 || e != 0 {
		t.Errorf("Digest of two leaves: %x, error %d", n, e)
	}
	if m, e := Read(""); e != api.ErrImage || len(m.Ram.Data) != 0 {
		t.Errorf("Read of nothing: error %d", e)
	}
}

// P17.1: each of a machine's things stands at its own place, and nothing else changes with it.
func TestPlaces(t *testing.T) {
	names := []string{}
	for n := range 32 {
		names = append(names, fmt.Sprint("X", n))
	}
	names = append(names, strings.Fields(hartNames+" "+csrNames+" "+boardNames+" Prio1 Prio2 Prio3 Enable0 Enable1 Level0 Level1 Claimed In Sectors Count Next")...)
	type m = api.Machine
	changes := map[string]func(m *m){
		"PC": func(m *m) { m.Hart.PC = 0x1234567890abcdee }, "Mode": func(m *m) { m.Hart.Mode = 3 },
		"Held At": func(m *m) { m.Hart.Held, m.Hart.At = false, 0 }, "At": func(m *m) { m.Hart.At = all },
		"Mstatus": func(m *m) { m.Hart.C.Mstatus = 0xe19aa }, "Medeleg": func(m *m) { m.Hart.C.Medeleg = 0xb3ff },
		"Mideleg": func(m *m) { m.Hart.C.Mideleg = 0x222 }, "Mie": func(m *m) { m.Hart.C.Mie = 0xaaa },
		"Mip": func(m *m) { m.Hart.C.Mip = 0 }, "Mtvec": func(m *m) { m.Hart.C.Mtvec = all - 2 },
		"Mscratch": func(m *m) { m.Hart.C.Mscratch = all }, "Mepc": func(m *m) { m.Hart.C.Mepc = all - 1 },
		"Mcause": func(m *m) { m.Hart.C.Mcause = 1<<63 | 9 }, "Mtval": func(m *m) { m.Hart.C.Mtval = all },
		"Stvec": func(m *m) { m.Hart.C.Stvec = 1 }, "Sscratch": func(m *m) { m.Hart.C.Sscratch = all },
		"Sepc": func(m *m) { m.Hart.C.Sepc = 0 }, "Scause": func(m *m) { m.Hart.C.Scause = all },
		"Stval": func(m *m) { m.Hart.C.Stval = 1 << 40 }, "Satp": func(m *m) { m.Hart.C.Satp = 0xfffffffffff },
		"Msip": func(m *m) { m.Board.Msip = false }, "Cmp": func(m *m) { m.Board.Cmp = all },
		"Ier": func(m *m) { m.Board.Ier = true }, "Sector": func(m *m) { m.Board.Sector = all },
		"Addr": func(m *m) { m.Board.Addr = base }, "Done": func(m *m) { m.Board.Done = false },
		"Bad": func(m *m) { m.Board.Bad = true }, "NicAddr": func(m *m) { m.Board.NicAddr = base },
		"NicLen": func(m *m) { m.Board.NicLen = all }, "Prio1": func(m *m) { m.Board.Plic.Prio[1] = 7 },
		"Prio2": func(m *m) { m.Board.Plic.Prio[2] = 0 }, "Prio3": func(m *m) { m.Board.Plic.Prio[3] = 6 },
		"Enable0": func(m *m) { m.Board.Plic.Enable[0] = 14 }, "Enable1": func(m *m) { m.Board.Plic.Enable[1] = 0 },
		"Level0": func(m *m) { m.Board.Plic.Level[0] = 7 }, "Level1": func(m *m) { m.Board.Plic.Level[1] = 0 },
		"Claimed": func(m *m) { m.Board.Plic.Claimed = 6 }, "In": func(m *m) { m.Board.In = "" },
		"Sectors": func(m *m) { m.Board.Sectors = pattern(1024, 1) }, "Count": func(m *m) { m.Count = all },
		"Next": func(m *m) { m.Next = 1 << 63 }, "": func(m *m) { m.Ram.Data[0]++ },
	}
	for n := 1; n < 32; n++ {
		changes[names[n]] = func(m *api.Machine) { m.Hart.X[n] = all - uint64(n) }
	}
	was, _ := unpackBy(wantHead(t, known()))
	for what, change := range changes {
		m := known()
		change(&m)
		now, _ := unpackBy(wantHead(t, m))
		var moved []string
		for i, name := range names {
			if now[i] != was[i] {
				moved = append(moved, name)
			}
		}
		if strings.Join(moved, " ") != what || !slices.Equal(now[fixed:], was[fixed:]) {
			t.Errorf("a change of %q is one of %q", what, moved)
		}
		wantWritten(t, what, m)
		wantRead(t, what, wantWritten(t, what, m))
	}
	if len(changes) != len(names) {
		t.Errorf("%d changes, want as many as names: without register 0, but with none of all", len(changes))
	}
}

func wantHead(t *testing.T, m api.Machine) string {
	t.Helper()
	head, e := Head(m)
	if e != 0 {
		t.Fatalf("Head: error %d", e)
	}
	return head
}

// P17.1, P17.2: right machines at the edges of what may be, there and back.
func TestRights(t *testing.T) {
	for what, m := range rights() {
		s := wantWritten(t, what, m)
		got, e := Read(s)
		wantAnswer(t, what+": Read", got, e, bare(m), 0)
		got, e = Join(wantHead(t, m), string(m.Ram.Data))
		wantAnswer(t, what+": Join", got, e, bare(m), 0)
		wantRead(t, what, s)
		wantJoin(t, what, wantHead(t, m), string(m.Ram.Data))
	}
}

// gone: machines behind runs and inputs, with what there has to be in them.
func gone(t *testing.T) map[string]api.Machine {
	serial := func(gap int, s string) api.Input { return api.Input{Gap: gap, Dev: 1, Data: s} }
	frame := func(gap int, s string) api.Input { return api.Input{Gap: gap, Dev: 2, Data: s} }
	list := map[string]api.Machine{}
	for _, x := range []struct {
		what, boot string
		inputs     []api.Input
		more       int
		holds      func(m api.Machine) bool
	}{
		{"a new one", "", nil, 0, func(m api.Machine) bool { return m.Count == 0 }},
		{"squares", squares(), nil, 200, func(m api.Machine) bool { return m.Hart.X[9] == 285 && m.Next == 1 }},
		{"frames that wait", code(still), []api.Input{frame(1, "a"), frame(2, pattern(64, 1)), frame(3, "c")}, 5,
			func(m api.Machine) bool { return len(m.Board.Frames) == 3 && m.Count == 11 }},
		{"64 frames that wait", code(still), slices.Repeat([]api.Input{frame(1, pattern(64, 2))}, 65), 0,
			func(m api.Machine) bool { return len(m.Board.Frames) == 64 }},
		{"a byte that waits", echo, []api.Input{serial(64, "AB")}, 5, func(m api.Machine) bool { return m.Board.In == "B" }},
		{"1024 bytes that wait", code(still), slices.Repeat([]api.Input{serial(1, pattern(64, 3))}, 17), 0,
			func(m api.Machine) bool { return len(m.Board.In) == 1024 }},
		{"sectors that were written", diskProgram(), nil, 40,
			func(m api.Machine) bool {
				return m.Board.Sectors[320:384] == sector[:64] && m.Board.Sector == 16 && m.Board.Bad && !m.Board.Done
			}},
		{"a sector that is done", diskProgram(), nil, 8, func(m api.Machine) bool { return m.Board.Done }},
		{"one that isn't there", diskProgram(), nil, 19, func(m api.Machine) bool { return m.Board.Done && m.Board.Bad }},
		{"a clock that interrupts", ticks(), nil, 21, func(m api.Machine) bool { return m.Hart.C.Mcause == 1<<63|7 && m.Board.Cmp == 20 }},
		{"an interrupt that waits", called(), []api.Input{serial(10, "x")}, 4,
			func(m api.Machine) bool { return m.Board.In == "x" && m.Board.Plic.Claimed == 0 && m.Board.Ier }},
		{"one that is claimed", called(), []api.Input{serial(30, "x")}, 4,
			func(m api.Machine) bool { return m.Board.Plic.Claimed == 2 && m.Hart.X[11] == 1 }},
		{"frames that were sent", mirror(), []api.Input{frame(9, "one"), frame(2, "two")}, 9, func(m api.Machine) bool { return m.Next == 1 }},
		{"the lowest mode", asked(), nil, 6, func(m api.Machine) bool { return m.Hart.Mode == 0 }},
		{"a reservation", code(here(5), 0x1002a32f, still), nil, 2, func(m api.Machine) bool { return m.Hart.Held && m.Hart.At == base }},
	} {
		m, e := machine.Spec(x.boot, 2, x.inputs...)
		if m, _ = machine.Run(m, x.more); e != 0 || !x.holds(m) {
			t.Fatalf("%s: error %d, %#v", x.what, e, m.Board)
		}
		list[x.what] = m
	}
	return list
}

// P17.1, P17.2: machines behind runs and inputs.
func TestGone(t *testing.T) {
	for what, m := range gone(t) {
		s := wantWritten(t, what, m)
		got, e := Read(s)
		wantAnswer(t, what+": Read", got, e, bare(m), 0)
		wantRead(t, what, s)
		wantJoin(t, what, wantHead(t, m), string(m.Ram.Data))
	}
}

// P17.1: Marks, Epoch and Outs are no part of the bytes; all else is, so unlike machines have unlike bytes and digests.
func TestNoPart(t *testing.T) {
	for what, m := range rights() {
		s := wantWritten(t, what, m)
		n, _ := Digest(m)
		other := twin(m)
		for i := range other.Ram.Marks {
			other.Ram.Marks[i] = uint64(i * i)
		}
		other.Ram.Epoch, other.Outs = 1<<63, append(other.Outs, api.Record{Num: 6, Dev: 1, Bytes: "no part"})
		sum, e := Digest(other)
		if again := wantWritten(t, what, other); again != s || sum != n || e != 0 {
			t.Errorf("%s: %s; digests %x, %x", what, first(again, s), sum, n)
		}
		other.Ram.Data[len(other.Ram.Data)-1]++
		if sum, _ = Digest(other); wantWritten(t, what, other) == s || sum == n {
			t.Errorf("%s: another memory doesn't show", what)
		}
	}
}

// P17.1 (chapter 16's Check): machines that may not be.
func TestWrongMachines(t *testing.T) {
	for _, x := range wrongs() {
		m := busy("", 3)
		x.change(&m)
		wantNothing(t, x.what, m, x.err)
	}
	wantNothing(t, "no machine", api.Machine{}, 50)
	for _, x := range wrongs()[8:] {
		m := busy("", 3)
		x.change(&m)
		wrongs()[7].change(&m)
		wantNothing(t, x.what+", behind the memory", m, 50)
	}
	m := busy("", 3)
	m.Board.In, m.Board.Frames = pattern(1<<17+1, 1), frames(1100, 1)
	wantNothing(t, "parts that aren't fields", m, 170)
	m = busy("", 3)
	m.Ram = api.Ram{Data: make([]byte, 1<<20), Marks: make([]uint64, 1<<12)}
	wantNothing(t, "a memory that is no field", m, 50)
}

// wantNothing: an error of all three, and nothing beside it.
func wantNothing(t *testing.T, what string, m api.Machine, want api.Errno) {
	t.Helper()
	wantWritten(t, what, m)
	head, e := Head(m)
	s, err := Bytes(m)
	n, no := Digest(m)
	if e != want || err != want || no != want || head != "" || s != "" || n != 0 {
		t.Errorf("%s: errors %d, %d, %d, want %d; %d and %d bytes, %x", what, e, err, no, want, len(head), len(s), n)
	}
}

// P17.1: the digest's rule, by hand, on short bytes.
func TestDigest(t *testing.T) {
	for s, want := range map[string]uint64{
		"":          0,
		"\x00":      0x100000001b4,
		"\xff":      0x100000002b3,
		"a":         0x10000000215,
		"\x00\x00":  0x6cd000005c806,
		"ab":        0x72e0000066d3b,
		"ba":        0x72f0000066eed,
		"abc":       0x1b49e0000fd39a50,
		"123456789": 0x95f01e842dbefc31,
	} {
		if n := digest(s); n != want {
			t.Errorf("%q: %x, want %x", s, n, want)
		}
	}
	m := known()
	s, _ := Bytes(m)
	if n, _ := Digest(m); n != digest(s) {
		t.Errorf("Digest isn't that of Bytes: %x, %x", n, digest(s))
	}
}

// knownFields: the fields of the known machine's head, and its memory.
func knownFields() ([]string, string) {
	m := known()
	return fieldsBy(m), string(m.Ram.Data)
}

// P17.1: heads whose fields are too few or too many, or have another length than their own.
func TestWrongFields(t *testing.T) {
	fields, data := knownFields()
	for n := range fixed {
		refused(t, fmt.Sprint(n, " fields alone"), packBy(fields[:n]...), data)
		refused(t, fmt.Sprint("all but field ", n), packBy(slices.Delete(slices.Clone(fields), n, n+1)...), data)
	}
	for n := range fixed {
		for _, s := range []string{"", fields[n] + "\x00", "\x00" + fields[n], fields[n] + fields[n], pattern(1025, 1)} {
			now := slices.Clone(fields)
			now[n] = s
			what := fmt.Sprintf("field %d of %d bytes", n, len(s))
			if n == ahead {
				wantTaken(t, what, packBy(now...), data, len(s) < 1025)
				continue
			}
			refused(t, what, packBy(now...), data)
		}
		now := slices.Clone(fields)
		now[n] = fields[n][:len(fields[n])-1]
		wantTaken(t, fmt.Sprint("field ", n, " without its last byte"), packBy(now...), data, n == ahead)
	}
}

// wantTaken: Join and Read take them, or refuse them.
func wantTaken(t *testing.T, what, head, data string, is bool) {
	t.Helper()
	if !is {
		refused(t, what, head, data)
		return
	}
	_, e := Join(head, data)
	_, err := Read(packBy(head, data))
	if e != 0 || err != 0 {
		t.Errorf("%s: errors %d and %d", what, e, err)
	}
	wantJoin(t, what, head, data)
	wantRead(t, what, packBy(head, data))
}

// P17.1: numbers that no machine that may be has, flags that are neither 1 nor 0, and those just beside them.
func TestWrongNumbers(t *testing.T) {
	const (
		modeAt   = 33
		statusAt = 36
		boardAt  = 52
		plicAt   = 61
	)
	fields, data := knownFields()
	try := func(at int, n uint64, is bool) {
		t.Helper()
		now := slices.Clone(fields)
		now[at] = eight(n)
		wantTaken(t, fmt.Sprintf("field %d is %x", at, n), packBy(now...), data, is)
	}
	for _, n := range []uint64{1, 1 << 32, 1 << 63, all} {
		try(0, n, false)
		for at := 1; at < 32; at++ {
			try(at, n, true)
		}
	}
	for _, n := range []uint64{1, 201, all} {
		try(32, n, false)
	}
	try(32, all-1, true)
	for _, n := range []uint64{2, 4, 5, 7, 1 << 8, 1<<8 | 1, 1 << 31, 1 << 32, 1<<32 | 1, 1<<32 | 3, 1 << 63, 1<<63 | 3, all} {
		try(modeAt, n, false)
	}
	for _, n := range []uint64{0, 1, 3} {
		try(modeAt, n, true)
	}
	for _, at := range []int{34, boardAt, boardAt + 2, boardAt + 5, boardAt + 6} {
		for _, n := range []uint64{2, 3, 255, 256, 257, 1 << 32, 1<<32 | 1, 1 << 63, all} {
			try(at, n, false)
		}
		try(at, 1, true)
		try(at, 0, at != 34)
	}
	for i, may := range []uint64{0xe19aa, 0xb3ff, 0x222, 0xaaa, 0x222, all - 2, all, all - 1, all, all, all - 2, all, all - 1, all, all, 0x80000fffffffffff} {
		try(statusAt+i, may, true)
		try(statusAt+i, 0, true)
		for bit := range 64 {
			n := uint64(1) << bit
			try(statusAt+i, n, n&may != 0 && (i > 0 || bit != 12))
		}
	}
	for i := range 9 {
		if i != 0 && i != 2 && i != 5 && i != 6 {
			try(boardAt+i, all, true)
		}
	}
	for i, may := range []uint64{7, 7, 7, 14, 14, 7, 7, 14} {
		for bit := range 64 {
			n := uint64(1) << bit
			try(plicAt+i, n, n&may != 0)
			try(plicAt+i, n|may, n&may != 0)
		}
	}
	for _, at := range []int{fixed - 2, fixed - 1} {
		try(at, all, true)
		try(at, 0, true)
	}
	now := slices.Clone(fields)
	now[34], now[35] = eight(0), eight(0)
	wantTaken(t, "nothing held", packBy(now...), data, true)
}

// P17.1: frames that are none, one, many, too many, empty, too long; bytes that wait; sectors.
func TestFrames(t *testing.T) {
	fields, data := knownFields()
	with := func(list ...string) string { return packBy(append(slices.Clone(fields[:fixed]), list...)...) }
	for _, n := range []int{0, 1, 2, 63, 64} {
		for _, size := range []int{0, 1, 63, 64} {
			wantTaken(t, fmt.Sprintf("%d frames of %d", n, size), with(frames(n, size)...), data, true)
			m, _ := Join(with(frames(n, size)...), data)
			if !slices.Equal(m.Board.Frames, frames(n, size)) {
				t.Errorf("%d frames of %d: %q", n, size, m.Board.Frames)
			}
		}
	}
	for _, n := range []int{65, 66, 128, 951, 952, 2000} {
		wantTaken(t, fmt.Sprint(n, " frames"), with(frames(n, 1)...), data, false)
		wantTaken(t, fmt.Sprint(n, " frames of nothing"), with(frames(n, 0)...), data, false)
	}
	for _, size := range []int{65, 66, 300, 1 << 17, 1<<17 + 1} {
		wantTaken(t, fmt.Sprint("one frame of ", size), with("a", pattern(size, 1), "b"), data, false)
	}
	for size, is := range map[int]bool{0: true, 1: true, 1023: true, 1024: true, 1025: false, 1 << 17: false, 1<<17 + 1: false, 1 << 20: false} {
		now := slices.Clone(fields)
		now[ahead] = pattern(size, 2)
		wantTaken(t, fmt.Sprint(size, " bytes that wait"), packBy(now...), data, is)
		now = slices.Clone(fields)
		now[ahead+1] = pattern(size, 3)
		wantTaken(t, fmt.Sprint(size, " bytes of sectors"), packBy(now...), data, size == 1024)
	}
}

// P17.1: memories of no bytes, of a part of a leaf, of as many leaves as may be, of more.
func TestMemories(t *testing.T) {
	fields, _ := knownFields()
	head := packBy(fields...)
	for _, size := range []int{256, 512, 768, 65536 - 256, 65536} {
		data := pattern(size, int64(size))
		wantTaken(t, fmt.Sprint(size, " bytes"), head, data, true)
		m, _ := Join(head, data)
		if string(m.Ram.Data) != data || !slices.Equal(m.Ram.Marks, make([]uint64, size/256)) || m.Ram.Epoch != 0 {
			t.Errorf("%d bytes: %d bytes, marks %v, epoch %d", size, len(m.Ram.Data), m.Ram.Marks, m.Ram.Epoch)
		}
	}
	for _, size := range []int{0, 1, 8, 255, 257, 300, 511, 513, 65535, 65537, 65536 + 256, 1 << 17, 1<<17 + 256, 1 << 20, 1<<20 + 256} {
		refused(t, fmt.Sprint(size, " bytes"), head, pattern(size, 1))
	}
}

// P17.1: bytes that aren't two fields, or aren't fields.
func TestWrongBytes(t *testing.T) {
	m := known()
	s, _ := Bytes(m)
	head, data := wantHead(t, m), string(m.Ram.Data)
	for what, s := range map[string]string{
		"nothing": "", "no field": packBy(), "one": packBy(head), "three": packBy(head, data, ""), "four": packBy(head, data, head, data),
		"the other way round": packBy(data, head), "the head alone": head, "the memory alone": data, "noughts": strings.Repeat("\x00", 3000),
		"two fields of nothing": packBy("", ""), "no head": packBy("", data), "no memory": packBy(head, ""), "twice": s + s,
		"a byte behind": s + "\x00", "a byte ahead": "\x00" + s, "not told how many": s[4:], "three, of which two are there": "\x03" + s[1:],
		"one, of which two are there": "\x01" + s[1:], "a long count": s[:3] + "\xff" + s[4:],
		"more than Unpack takes": packBy(append([]string{head, data}, make([]string, 1500)...)...),
	} {
		if _, e := Read(s); e != 170 {
			t.Errorf("%s: Read: error %d, want 170", what, e)
		}
		wantRead(t, what, s)
	}
	for what, head := range map[string]string{
		"nothing": "", "a byte behind": head + "\x00", "a byte ahead": "\x00" + head, "the bytes": s, "twice": head + head,
		"more than Unpack takes": head + strings.Repeat("\x00", 1<<20), "less than it tells": "\xff" + head[1:], "one frame more than there is": "\x4d" + head[1:],
		"one frame less than there is": "\x4b" + head[1:],
	} {
		refused(t, what, head, data)
	}
	for n := range s {
		if _, e := Read(s[:n]); e != 170 {
			t.Errorf("the first %d bytes: error %d, want 170", n, e)
		}
	}
	for n := range head {
		if _, e := Join(head[:n], data); e != 170 {
			t.Errorf("the head's first %d bytes: error %d, want 170", n, e)
		}
	}
}

// P17.2: what Read takes is Bytes of what it answers, with any byte changed.
func TestEachByte(t *testing.T) {
	s, _ := Bytes(known())
	taken := 0
	for i := range s {
		for _, change := range []byte{1, 2, 0x80, 0xff} {
			now := s[:i] + string([]byte{s[i] ^ change}) + s[i+1:]
			what := fmt.Sprintf("byte %d changed by %x", i, change)
			wantRead(t, what, now)
			if _, e := Read(now); e == 0 {
				taken++
			}
		}
	}
	if taken < 4*(768+1024) || taken > 4*(len(s)-76*4) {
		t.Errorf("%d of %d taken", taken, 4*len(s))
	}
}

// P17.2: machines by chance, there and back, and their bytes with some changed.
func TestByChance(t *testing.T) {
	r := rand.New(rand.NewSource(1701))
	for range 200 {
		m, _ := machine.Run(anyMachine(r), r.Intn(300))
		s := wantWritten(t, "by chance", m)
		got, e := Read(s)
		wantAnswer(t, "by chance: Read", got, e, bare(m), 0)
		for range 5 {
			b := []byte(s)
			for range 1 + r.Intn(3) {
				b[r.Intn(len(b))] = byte(r.Intn(256) >> r.Intn(8))
			}
			wantRead(t, "by chance", string(b))
		}
	}
}

// beside: what went out of the one that was written ahead of it isn't in the one that was read.
func beside(t *testing.T, what string, was, read api.Machine, old int) {
	t.Helper()
	was = twin(was)
	if !slices.Equal(was.Outs[old:], read.Outs) {
		t.Errorf("%s: out went %s, want %s", what, told(read.Outs), told(was.Outs[old:]))
	}
	wantMachine(t, what, bare(read), bare(was))
	a, _ := Bytes(was)
	b, e := Bytes(read)
	wantText(t, what+": Bytes", b, e, a, 0)
}

// P17.3: a machine that was read makes the same steps, one by one, and sends the same.
func TestGoesOn(t *testing.T) {
	machines := gone(t)
	maps.Copy(machines, rights())
	for what, was := range machines {
		s, _ := Bytes(was)
		read, e := Read(s)
		if e != 0 {
			t.Fatalf("%s: error %d", what, e)
		}
		old := len(was.Outs)
		for n := range 60 {
			was, _ = machine.Run(was, 1)
			read, _ = machine.Run(read, 1)
			beside(t, fmt.Sprintf("%s: step %d", what, n), was, read, old)
		}
		was, _ = machine.Run(was, 3000)
		read, _ = machine.Run(read, 3000)
		beside(t, what+": 3000 steps on", was, read, old)
	}
}

// P17.3: with inputs of both devices, written and read again on the way.
func TestGoesOnWithInputs(t *testing.T) {
	r := rand.New(rand.NewSource(1702))
	records := 0
	for n := range 120 {
		was := anyMachine(r)
		if n < 40 {
			was, _ = machine.New(programs()[names()[n%len(names())]], 1+n%3)
		}
		read := was
		sent := []api.Record{}
		was.Outs = nil
		for k, in := range anyInputs(r, 12) {
			s, _ := Bytes(read)
			read, _ = Read(s)
			was, _ = machine.Give(was, in)
			read, _ = machine.Give(read, in)
			sent = append(sent, read.Outs...)
			what := fmt.Sprintf("machine %d, input %d", n, k)
			if !slices.Equal(was.Outs, sent) {
				t.Errorf("%s: out went %s, want %s", what, told(sent), told(was.Outs))
			}
			wantMachine(t, what, bare(read), bare(was))
		}
		records += len(sent)
	}
	if records < 500 {
		t.Errorf("%d records alone", records)
	}
}

// P1 (nothing handed in is changed or kept): answers share nothing with what was handed in, nor with one another.
func TestNewMemory(t *testing.T) {
	m := roomy(echo)
	head, e := Head(m)
	s, err := Bytes(m)
	n, no := Digest(m)
	wantMachine(t, "what was handed in", whole(m), whole(roomy(echo)))
	want, want2 := strings.Clone(head), strings.Clone(s)
	scribble(m)
	if head != want || s != want2 || e != 0 || err != 0 || no != 0 {
		t.Error("the answers changed with what was handed in")
	}
	if again, _ := Digest(roomy(echo)); again != n {
		t.Errorf("Digest: %x, then %x", n, again)
	}
	data := string(roomy(echo).Ram.Data)
	for what, call := range map[string]func() (api.Machine, api.Errno){
		"Join": func() (api.Machine, api.Errno) { return Join(head, data) },
		"Read": func() (api.Machine, api.Errno) { return Read(s) },
	} {
		one, _ := call()
		other, _ := call()
		kept := twin(other)
		scribble(one)
		wantMachine(t, what+": the other answer", other, kept)
		if head != want || s != want2 || data != string(roomy(echo).Ram.Data) {
			t.Errorf("%s: what was handed in changed", what)
		}
		again, _ := call()
		wantMachine(t, what+": behind a change of the first answer", again, kept)
	}
}

// P1, DOC.md's rule 4: nothing is kept from call to call: the same calls answer the same, in the other order too.
func TestAsksNothingElse(t *testing.T) {
	r := rand.New(rand.NewSource(1703))
	var calls []func() string
	for n := range 60 {
		m := anyMachine(r)
		if n%3 == 0 {
			wrongs()[r.Intn(len(wrongs()))].change(&m)
		}
		text, _ := bytesBy(anyMachine(r))
		if n%4 == 0 {
			text = text[1:]
		}
		calls = append(calls, func() string {
			head, a := Head(m)
			s, b := Bytes(m)
			sum, c := Digest(m)
			read, d := Read(text)
			joined, e := Join(head, string(m.Ram.Data))
			return fmt.Sprint(head, a, s, b, sum, c, read, d, joined, e)
		})
	}
	var answers []string
	for _, call := range calls {
		answers = append(answers, call())
	}
	for i := len(calls) - 1; i >= 0; i-- {
		if calls[i]() != answers[i] {
			t.Errorf("call %d: another answer", i)
		}
	}
}

// anything: a machine of any kind.
func anything(r *rand.Rand) api.Machine {
	m := anyMachine(r)
	if r.Intn(2) == 0 {
		wrongs()[r.Intn(len(wrongs()))].change(&m)
	}
	if n := r.Intn(900); r.Intn(3) == 0 {
		m.Ram.Data, m.Ram.Marks = []byte(pattern(n, 1)), make([]uint64, r.Intn(5))
	}
	if r.Intn(3) == 0 {
		h := &m.Hart
		h.Mode, h.PC, h.X[0], h.C.Satp = int(r.Uint64()>>r.Intn(64)), r.Uint64(), r.Uint64(), r.Uint64()
		m.Board.Sectors = pattern(r.Intn(2000), 1)
		m.Board.Plic.Prio[r.Intn(4)], m.Board.Plic.Level[r.Intn(2)] = r.Uint32(), r.Uint32()
	}
	return m
}

// P1: all arguments of any kind.
func TestAnything(t *testing.T) {
	r := rand.New(rand.NewSource(1704))
	for range 400 {
		m := anything(r)
		wantWritten(t, "anything", m)
		fields := fieldsBy(m)
		for range r.Intn(4) {
			fields[r.Intn(len(fields))] = pattern(8*r.Intn(2)+r.Intn(2), r.Int63())
		}
		head, data := packBy(fields...), string(m.Ram.Data)
		wantJoin(t, "anything", head, data)
		wantRead(t, "anything", packBy(head, data))
		text := pattern(r.Intn(300), r.Int63())
		wantRead(t, "any bytes", text)
		wantJoin(t, "any bytes", text, data)
		wantJoin(t, "any memory", head, text)
		var any []string
		for range r.Intn(90) {
			any = append(any, pattern(r.Intn(10), r.Int63()))
		}
		wantJoin(t, "any fields", packBy(any...), data)
		wantRead(t, "any fields", packBy(any...))
	}
}
