package machine

import (
	"fmt"
	"math/rand"
	"reflect"
	"slices"
	"strings"
	"testing"

	"tandem/api"
	"tandem/hart"
)

const (
	all  = uint64(1<<64 - 1)
	base = uint64(0x80000000)
)

// checkBy: Check, as the words of chapters 5, 9, 12, 13, 15 and 16 tell it.
func checkBy(m api.Machine) api.Errno {
	if !memoryBy(m.Ram) {
		return 50
	}
	if !processorBy(m.Hart) || !controlBy(m.Hart.C) || !boardBy(m.Board) || !plicBy(m.Board.Plic) {
		return 170
	}
	return 0
}

func memoryBy(m api.Ram) bool {
	late := func(mark uint64) bool { return mark > m.Epoch }
	n := len(m.Marks)
	return n > 0 && n < 257 && len(m.Data) == 256*n && !slices.ContainsFunc(m.Marks, late)
}

func processorBy(h api.Hart) bool {
	free := !h.Held && h.At != 0
	return h.X[0] == 0 && h.PC%2 == 0 && slices.Contains([]int{0, 1, 3}, h.Mode) && !free
}

func controlBy(c api.Csr) bool {
	for _, x := range []struct{ has, may uint64 }{
		{c.Mstatus, 0xe19aa}, {c.Medeleg, 0xb3ff}, {c.Mideleg, 0x222}, {c.Mie, 0xaaa}, {c.Mip, 0x222},
		{c.Mtvec, all - 2}, {c.Stvec, all - 2}, {c.Mepc, all - 1}, {c.Sepc, all - 1}, {c.Satp, 0x80000fffffffffff},
	} {
		if x.has|x.may != x.may {
			return false
		}
	}
	return c.Mstatus/0x800%4 != 2
}

func boardBy(b api.Board) bool {
	long := func(frame string) bool { return len(frame) > 64 }
	return len(b.Sectors) == 1024 && len(b.In) < 1025 && len(b.Frames) < 65 && !slices.ContainsFunc(b.Frames, long)
}

func plicBy(p api.Plic) bool {
	great := func(n uint32) bool { return n > 7 }
	other := func(n uint32) bool { return n != n&14 }
	return p.Prio[0] == 0 && !slices.ContainsFunc(append(p.Prio[:], p.Level[:]...), great) && !slices.ContainsFunc(append(p.Enable[:], p.Claimed), other)
}

// newBy: New, as the chapters' words tell it.
func newBy(boot string, leaves int) (m api.Machine, e api.Errno) {
	switch {
	case leaves < 1 || leaves > 256:
		return m, 50
	case len(boot) > 256*leaves:
		return m, 2
	}
	m.Ram.Data = append([]byte(boot), make([]byte, 256*leaves-len(boot))...)
	m.Ram.Marks = make([]uint64, leaves)
	m.Board.Cmp, m.Board.Sectors = all, strings.Repeat("\x00", 1024)
	m.Hart.PC, m.Hart.Mode = base, 3
	return m, 0
}

// stepsBy: the machine behind so many steps.
func stepsBy(m api.Machine, steps int) api.Machine {
	m = twin(m)
	for ; steps > 0; steps-- {
		hart.Step(&m)
	}
	return m
}

// runBy: Run, as the chapter's words tell it.
func runBy(m api.Machine, steps int) (api.Machine, api.Errno) {
	if e := checkBy(m); e != 0 {
		return api.Machine{}, e
	}
	if steps < 0 || steps > 65536 {
		return api.Machine{}, 1
	}
	return stepsBy(m, steps), 0
}

// inputBy, giveBy and specBy: likewise.
func inputBy(in api.Input) bool {
	return in.Gap > 0 && in.Gap < 65 && len(in.Data) > 0 && len(in.Data) < 65 && (in.Dev == 1 || in.Dev == 2)
}

func giveBy(m api.Machine, in api.Input) (api.Machine, api.Errno) {
	if !inputBy(in) {
		return api.Machine{}, 1
	}
	if e := checkBy(m); e != 0 {
		return api.Machine{}, e
	}
	m = stepsBy(m, in.Gap)
	if b := &m.Board; in.Dev == 1 && len(b.In+in.Data) <= 1024 {
		b.In += in.Data
	} else if in.Dev == 2 && len(b.Frames) < 64 {
		b.Frames = append(slices.Clone(b.Frames), in.Data)
	}
	return m, 0
}

func specBy(boot string, leaves int, inputs ...api.Input) (api.Machine, api.Errno) {
	m, e := newBy(boot, leaves)
	for i := 0; i < len(inputs) && e == 0; i++ {
		m, e = giveBy(m, inputs[i])
	}
	return m, e
}

// twin: the same machine, made apart from the program.
func twin(m api.Machine) api.Machine {
	m.Board.Frames, m.Outs = slices.Clone(m.Board.Frames), slices.Clone(m.Outs)
	m.Ram.Data, m.Ram.Marks = slices.Clone(m.Ram.Data), slices.Clone(m.Ram.Marks)
	return m
}

// unlike: what differs; a list that holds nothing may be nil or empty.
func unlike(got, want api.Machine) (s string) {
	tell := func(what string, a, b any) {
		s += fmt.Sprintf("\n\t%s: %.400v, want %.400v", what, fmt.Sprintf("%#v", a), fmt.Sprintf("%#v", b))
	}
	if got.Hart != want.Hart {
		tell("Hart", got.Hart, want.Hart)
	}
	if !slices.Equal(got.Board.Frames, want.Board.Frames) {
		tell("Frames", got.Board.Frames, want.Board.Frames)
	}
	got.Board.Frames, want.Board.Frames = nil, nil
	if !reflect.DeepEqual(got.Board, want.Board) {
		got.Board.Sectors, want.Board.Sectors = fmt.Sprint("the same: ", got.Board.Sectors == want.Board.Sectors), "the same: true"
		tell("Board", got.Board, want.Board)
	}
	if !slices.Equal(got.Ram.Data, want.Ram.Data) {
		tell("Data", len(got.Ram.Data), len(want.Ram.Data))
	}
	if !slices.Equal(got.Ram.Marks, want.Ram.Marks) || got.Ram.Epoch != want.Ram.Epoch {
		tell("Epoch and marks", []any{got.Ram.Epoch, got.Ram.Marks}, []any{want.Ram.Epoch, want.Ram.Marks})
	}
	if got.Count != want.Count || got.Next != want.Next {
		tell("Count and Next", []uint64{got.Count, got.Next}, []uint64{want.Count, want.Next})
	}
	if !slices.Equal(got.Outs, want.Outs) {
		tell("Outs", got.Outs, want.Outs)
	}
	return s
}

func wantMachine(t *testing.T, what string, got, want api.Machine) {
	t.Helper()
	if s := unlike(got, want); s != "" {
		t.Errorf("%s:%s", what, s)
	}
}

// wantAnswer: a machine and an error, beside which it is one of noughts.
func wantAnswer(t *testing.T, what string, got api.Machine, e api.Errno, want api.Machine, err api.Errno) {
	t.Helper()
	if e != err {
		t.Errorf("%s: error %d, want %d", what, e, err)
	}
	if e != 0 && !reflect.ValueOf(got).IsZero() {
		t.Errorf("%s: a machine beside an error", what)
	}
	wantMachine(t, what, got, want)
}

// wantRun: Run answers as the words tell, and leaves what it is handed.
func wantRun(t *testing.T, what string, m api.Machine, steps int) api.Machine {
	t.Helper()
	was := twin(m)
	got, e := Run(m, steps)
	want, err := runBy(was, steps)
	what = fmt.Sprintf("%s: Run of %d", what, steps)
	wantAnswer(t, what, got, e, want, err)
	wantMachine(t, what+": what was handed in", m, was)
	return got
}

// wantGive: Give, likewise.
func wantGive(t *testing.T, what string, m api.Machine, in api.Input) api.Machine {
	t.Helper()
	was := twin(m)
	got, e := Give(m, in)
	want, err := giveBy(was, in)
	what = fmt.Sprintf("%s: Give of %#v", what, in)
	wantAnswer(t, what, got, e, want, err)
	wantMachine(t, what+": what was handed in", m, was)
	return got
}

// wantSpec: Spec, likewise.
func wantSpec(t *testing.T, what, boot string, leaves int, inputs ...api.Input) api.Machine {
	t.Helper()
	was := slices.Clone(inputs)
	got, e := Spec(boot, leaves, inputs...)
	want, err := specBy(boot, leaves, was...)
	what = fmt.Sprintf("%s: Spec of %d leaves and %d inputs", what, leaves, len(inputs))
	wantAnswer(t, what, got, e, want, err)
	if !slices.Equal(inputs, was) {
		t.Errorf("%s: what was handed in: %#v, was %#v", what, inputs, was)
	}
	return got
}

// pattern: so many bytes by chance, the same ones each time.
func pattern(n int, seed int64) string {
	b := make([]byte, n)
	rand.New(rand.NewSource(seed)).Read(b)
	return string(b)
}

// frames: so many of so many bytes.
func frames(n, size int) []string {
	var list []string
	for i := range n {
		list = append(list, strings.Repeat(string(rune('a'+i%26)), size))
	}
	return list
}

// busy: a right machine of which no field is nothing, with this program; no interrupt is on.
func busy(boot string, leaves int) api.Machine {
	m := api.Machine{
		Hart: api.Hart{PC: base, Mode: 3, Held: true, At: base + 8, C: api.Csr{
			Mstatus: 0x20, Medeleg: 0x100, Mideleg: 0x222, Mie: 0x80, Mip: 0x2, Mtvec: base + 0x81, Mscratch: 3, Mepc: 4, Mcause: 5, Mtval: 6,
			Stvec: base + 0x85, Sscratch: 8, Sepc: 10, Scause: 11, Stval: 12, Satp: 13,
		}},
		Board: api.Board{
			Msip: true, Cmp: 1 << 40, In: "waits", Ier: true, Sectors: pattern(1024, 2), Sector: 4, Addr: base + 0x40,
			Bad: true, Frames: []string{"one", "and two"}, NicAddr: base + 0x80, NicLen: 6,
			Plic: api.Plic{Prio: [4]uint32{0, 3, 5, 7}, Enable: [2]uint32{10, 12}, Level: [2]uint32{1, 2}, Claimed: 8},
		},
		Ram:   api.Ram{Data: append([]byte(boot), pattern(256*leaves-len(boot), 3)...), Marks: make([]uint64, leaves), Epoch: 9},
		Count: 700, Next: 41, Outs: []api.Record{{Num: 39, Dev: 2, Bytes: "out"}, {Num: 40, Dev: 1, Bytes: "."}},
	}
	for n := range m.Hart.X[1:] {
		m.Hart.X[n+1] = base + 0x10*uint64(n)
	}
	for i := range m.Ram.Marks {
		m.Ram.Marks[i] = uint64(i % 9)
	}
	return m
}
