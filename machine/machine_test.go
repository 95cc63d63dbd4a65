package machine

import (
	"fmt"
	"math"
	"math/rand"
	"reflect"
	"slices"
	"strings"
	"testing"

	"tandem/api"
	"tandem/dev"
	"tandem/hart"
	"tandem/plic"
	"tandem/ram"
)

// A wrong is a machine that may not be, by one thing alone.
type wrong struct {
	what   string
	change func(m *api.Machine)
	err    api.Errno
}

// wrongs: by memory, by the processor, by the board and by its Plic.
func wrongs() []wrong {
	type machine = api.Machine
	return []wrong{
		{"no memory", func(m *machine) { m.Ram = api.Ram{} }, 50},
		{"no leaf", func(m *machine) { m.Ram.Data, m.Ram.Marks = nil, nil }, 50},
		{"a byte too few", func(m *machine) { m.Ram.Data = m.Ram.Data[1:] }, 50},
		{"a byte too many", func(m *machine) { m.Ram.Data = append(m.Ram.Data, 0) }, 50},
		{"a leaf without a mark", func(m *machine) { m.Ram.Marks = m.Ram.Marks[1:] }, 50},
		{"a mark without a leaf", func(m *machine) { m.Ram.Marks = append(m.Ram.Marks, 0) }, 50},
		{"257 leaves", func(m *machine) { m.Ram.Data, m.Ram.Marks = make([]byte, 256*257), make([]uint64, 257) }, 50},
		{"a late mark", func(m *machine) { m.Ram.Marks[1] = m.Ram.Epoch + 1 }, 50},
		{"register 0", func(m *machine) { m.Hart.X[0] = 1 }, 170},
		{"an odd PC", func(m *machine) { m.Hart.PC++ }, 170},
		{"mode 2", func(m *machine) { m.Hart.Mode = 2 }, 170},
		{"mode -1", func(m *machine) { m.Hart.Mode = -1 }, 170},
		{"mode 4", func(m *machine) { m.Hart.Mode = 4 }, 170},
		{"At that isn't held", func(m *machine) { m.Hart.Held = false }, 170},
		{"Mstatus", func(m *machine) { m.Hart.C.Mstatus |= 1 }, 170},
		{"MPP 2", func(m *machine) { m.Hart.C.Mstatus |= 0x1000 }, 170},
		{"Medeleg", func(m *machine) { m.Hart.C.Medeleg |= 1 << 10 }, 170},
		{"Mideleg", func(m *machine) { m.Hart.C.Mideleg |= 8 }, 170},
		{"Mie", func(m *machine) { m.Hart.C.Mie |= 1 }, 170},
		{"Mip", func(m *machine) { m.Hart.C.Mip |= 0x80 }, 170},
		{"Mtvec", func(m *machine) { m.Hart.C.Mtvec |= 2 }, 170},
		{"Stvec", func(m *machine) { m.Hart.C.Stvec |= 2 }, 170},
		{"Mepc", func(m *machine) { m.Hart.C.Mepc |= 1 }, 170},
		{"Sepc", func(m *machine) { m.Hart.C.Sepc |= 1 }, 170},
		{"Satp", func(m *machine) { m.Hart.C.Satp |= 1 << 44 }, 170},
		{"Satp's kind", func(m *machine) { m.Hart.C.Satp |= 9 << 60 }, 170},
		{"no sectors", func(m *machine) { m.Board.Sectors = "" }, 170},
		{"1023 bytes of sectors", func(m *machine) { m.Board.Sectors = m.Board.Sectors[1:] }, 170},
		{"1025 bytes of sectors", func(m *machine) { m.Board.Sectors += "x" }, 170},
		{"1025 bytes that wait", func(m *machine) { m.Board.In = pattern(1025, 1) }, 170},
		{"65 frames", func(m *machine) { m.Board.Frames = frames(65, 1) }, 170},
		{"a frame of 65 bytes", func(m *machine) { m.Board.Frames = append(frames(3, 64), pattern(65, 1)) }, 170},
		{"Prio 0", func(m *machine) { m.Board.Plic.Prio[0] = 1 }, 170},
		{"Prio 1", func(m *machine) { m.Board.Plic.Prio[1] = 8 }, 170},
		{"Prio 3", func(m *machine) { m.Board.Plic.Prio[3] = 8 }, 170},
		{"Enable 0", func(m *machine) { m.Board.Plic.Enable[0] |= 1 }, 170},
		{"Enable 1", func(m *machine) { m.Board.Plic.Enable[1] |= 16 }, 170},
		{"Level 0", func(m *machine) { m.Board.Plic.Level[0] = 8 }, 170},
		{"Level 1", func(m *machine) { m.Board.Plic.Level[1] = 8 }, 170},
		{"Claimed", func(m *machine) { m.Board.Plic.Claimed |= 16 }, 170},
	}
}

// rights: machines that may be, at the edges of what may.
func rights() map[string]api.Machine {
	list := map[string]api.Machine{"busy": busy("", 3)}
	for _, name := range names() {
		list[name], _ = newBy(programs()[name], 2)
	}
	for what, change := range map[string]func(m *api.Machine){
		"one leaf":       func(m *api.Machine) { m.Ram.Data, m.Ram.Marks = m.Ram.Data[:256], m.Ram.Marks[:1] },
		"256 leaves":     func(m *api.Machine) { m.Ram.Data, m.Ram.Marks = make([]byte, 65536), make([]uint64, 256) },
		"marks of now":   func(m *api.Machine) { m.Ram.Marks = []uint64{9, 9, 9} },
		"a late epoch":   func(m *api.Machine) { m.Ram.Marks, m.Ram.Epoch = []uint64{all, 0, all}, all },
		"User":           func(m *api.Machine) { m.Hart.Mode = 0 },
		"Supervisor":     func(m *api.Machine) { m.Hart.Mode = 1 },
		"nothing held":   func(m *api.Machine) { m.Hart.Held, m.Hart.At = false, 0 },
		"held at 0":      func(m *api.Machine) { m.Hart.At = 0 },
		"a PC far off":   func(m *api.Machine) { m.Hart.PC = all - 1 },
		"all of Mstatus": func(m *api.Machine) { m.Hart.C.Mstatus = 0xe19aa },
		"all of the sets": func(m *api.Machine) {
			c := &m.Hart.C
			c.Medeleg, c.Mideleg, c.Mie, c.Mip, c.Satp = 0xb3ff, 0x222, 0xaaa, 0x222, 0x80000fffffffffff
		},
		"all of the places": func(m *api.Machine) {
			c := &m.Hart.C
			c.Mtvec, c.Stvec, c.Mepc, c.Sepc, c.Mcause, c.Scause, c.Mtval, c.Stval = all-2, all-2, all-1, all-1, all, all, all, all
		},
		"all that waits": func(m *api.Machine) { m.Board.In, m.Board.Frames = pattern(1024, 1), frames(64, 64) },
		"nothing waits":  func(m *api.Machine) { m.Board.In, m.Board.Frames = "", nil },
		"a frame of nothing": func(m *api.Machine) {
			m.Board.Frames = []string{"", "x"}
			m.Board.Sector, m.Board.Addr, m.Board.NicAddr, m.Board.NicLen = all, all, all, all
		},
		"all of the Plic": func(m *api.Machine) {
			m.Board.Plic = api.Plic{Prio: [4]uint32{0, 7, 7, 7}, Enable: [2]uint32{14, 14}, Level: [2]uint32{7, 7}, Claimed: 14}
		},
		"records of any kind": func(m *api.Machine) {
			m.Outs = []api.Record{{Num: 9, Dev: -4, Bytes: ""}, {Num: 9, Dev: 7, Bytes: pattern(1000, 1)}, {}}
			m.Count, m.Next = all, all
		},
	} {
		m := busy("", 3)
		change(&m)
		list[what] = m
	}
	return list
}

func wantCheck(t *testing.T, what string, m api.Machine, want api.Errno) {
	t.Helper()
	was := twin(m)
	if e := Check(m); e != want {
		t.Errorf("%s: Check: %d, want %d", what, e, want)
	}
	if e := checkBy(was); e != want {
		t.Errorf("%s: Check by the words: %d, want %d", what, e, want)
	}
	wantMachine(t, what+": what was handed in", m, was)
}

// P16.1: may the machine be?
func TestCheck(t *testing.T) {
	for what, m := range rights() {
		wantCheck(t, what, m, 0)
	}
	wantCheck(t, "no machine", api.Machine{}, 50)
	for _, x := range wrongs() {
		m := busy("", 3)
		x.change(&m)
		wantCheck(t, x.what, m, x.err)
	}
}

// P16.1: memory is asked first, whatever else isn't right.
func TestCheckOrder(t *testing.T) {
	for _, x := range wrongs() {
		for _, y := range wrongs() {
			if x.err == 50 && y.err == 170 {
				m := busy("", 3)
				x.change(&m)
				y.change(&m)
				wantCheck(t, x.what+" and "+y.what, m, 50)
			}
		}
	}
}

// P16.1: each bit of the processor's fields, and of the Plic's.
func TestCheckBits(t *testing.T) {
	m := busy("", 3)
	words := []*uint64{&m.Hart.PC, &m.Hart.At, &m.Count, &m.Next, &m.Board.Cmp, &m.Board.Sector, &m.Board.Addr, &m.Board.NicAddr, &m.Board.NicLen, &m.Ram.Epoch}
	for i := range m.Hart.X {
		words = append(words, &m.Hart.X[i])
	}
	for c, i := reflect.ValueOf(&m.Hart.C).Elem(), 0; i < c.NumField(); i++ {
		words = append(words, c.Field(i).Addr().Interface().(*uint64))
	}
	for n, word := range words {
		for bit := range 64 {
			was := *word
			*word ^= 1 << bit
			wantCheck(t, fmt.Sprintf("word %d, bit %d", n, bit), m, checkBy(m))
			*word = was
		}
	}
	p := &m.Board.Plic
	for n, half := range []*uint32{&p.Prio[0], &p.Prio[1], &p.Prio[2], &p.Prio[3], &p.Enable[0], &p.Enable[1], &p.Level[0], &p.Level[1], &p.Claimed} {
		for bit := range 32 {
			was := *half
			*half ^= 1 << bit
			wantCheck(t, fmt.Sprintf("Plic's %d, bit %d", n, bit), m, checkBy(m))
			*half = was
		}
	}
}

// P16.1: a machine that is switched on, at the edges of leaves and boots, and beyond them.
func TestNew(t *testing.T) {
	for _, x := range []struct {
		leaves, size int
		err          api.Errno
	}{
		{1, 0, 0}, {1, 1, 0}, {1, 255, 0}, {1, 256, 0}, {1, 257, 2}, {2, 257, 0}, {2, 512, 0}, {2, 513, 2}, {255, 65280, 0}, {255, 65281, 2},
		{256, 0, 0}, {256, 65535, 0}, {256, 65536, 0}, {256, 65537, 2}, {1, 100000, 2}, {256, 1 << 20, 2},
		{0, 0, 50}, {0, 1, 50}, {-1, 0, 50}, {-1, 1, 50}, {257, 0, 50}, {257, 65793, 50}, {257, 1 << 20, 50},
		{math.MinInt, 5, 50}, {math.MaxInt, 5, 50}, {1 << 32, 0, 50}, {1<<32 + 1, 0, 50}, {1 << 56, 0, 50}, {-255, 1, 50},
	} {
		boot := pattern(x.size, 7)
		want, err := newBy(boot, x.leaves)
		if err != x.err {
			t.Fatalf("New of %d and %d by the words: %d", x.size, x.leaves, err)
		}
		got, e := New(boot, x.leaves)
		what := fmt.Sprintf("New of %d bytes, %d leaves", x.size, x.leaves)
		wantAnswer(t, what, got, e, want, err)
		if e == 0 {
			wantCheck(t, what, got, 0)
		}
		wantSpec(t, what, boot, x.leaves)
	}
}

// P16.1: what a new machine is, field by field, as written down by hand.
func TestKnownNew(t *testing.T) {
	m, e := New("\x13\x00ab", 3)
	h, b := m.Hart, m.Board
	if e != 0 || h != (api.Hart{PC: 0x80000000, Mode: 3}) {
		t.Errorf("error %d, processor %+v", e, h)
	}
	if b.Cmp != 1<<64-1 || b.Sectors != strings.Repeat("\x00", 1024) || b.In != "" || len(b.Frames) != 0 || b.Plic != (api.Plic{}) {
		t.Errorf("board %#v", b)
	}
	if string(m.Ram.Data) != "\x13\x00ab"+strings.Repeat("\x00", 764) || !slices.Equal(m.Ram.Marks, []uint64{0, 0, 0}) || m.Ram.Epoch != 0 {
		t.Errorf("memory %#v", m.Ram)
	}
	if m.Count != 0 || m.Next != 0 || len(m.Outs) != 0 {
		t.Errorf("Count %d, Next %d, Outs %v", m.Count, m.Next, m.Outs)
	}
}

// gaps, sizes and devices: what an input's may be, and what not.
func gaps() []int {
	return []int{0, 1, 2, 3, 32, 63, 64, 65, -1, -64, 128, math.MinInt, math.MaxInt, 1 << 32, 1<<32 + 1}
}

func sizes() []int { return []int{0, 1, 2, 33, 63, 64, 65, 128, 1000, 1 << 17} }

func devices() []int {
	return []int{1, 2, 0, 3, 4, -1, -2, 257, math.MinInt, math.MaxInt, 1<<32 + 1, 1<<32 + 2}
}

// P16.1: may the input be? Its ID may be any.
func TestInput(t *testing.T) {
	for _, gap := range gaps() {
		for _, size := range sizes() {
			for _, dev := range devices() {
				for _, id := range []uint64{0, 1, 77, 1 << 63, all} {
					in := api.Input{ID: id, Gap: gap, Dev: dev, Data: pattern(size, 5)}
					want := gap >= 1 && gap <= 64 && size >= 1 && size <= 64 && (dev == 1 || dev == 2)
					if Input(in) != want || inputBy(in) != want {
						t.Errorf("ID %x, Gap %d, Dev %d, %d bytes: %v, by the words %v, want %v", id, gap, dev, size, Input(in), inputBy(in), want)
					}
				}
			}
		}
	}
	for _, data := range []string{"\x00", "\xff\xfe", strings.Repeat("\x00", 64), strings.Repeat("é", 32)} {
		if !Input(api.Input{Gap: 1, Dev: 2, Data: data}) {
			t.Errorf("%q is refused", data)
		}
	}
	if Input(api.Input{Gap: 1, Dev: 2, Data: strings.Repeat("é", 33)}) || Input(api.Input{}) {
		t.Error("66 bytes, or nothing at all, are taken")
	}
}

// P16.1: runs of all machines that may be, of some steps.
func TestRun(t *testing.T) {
	for what, m := range rights() {
		for _, steps := range []int{0, 1, 2, 3, 10, 200, 3000} {
			got := wantRun(t, what, m, steps)
			if got.Count != m.Count+uint64(steps) {
				t.Errorf("%s: Count %d behind %d steps, was %d", what, got.Count, steps, m.Count)
			}
			wantCheck(t, what+", behind steps", got, 0)
		}
	}
}

// P16.1: no steps leave all as it is.
func TestRunNothing(t *testing.T) {
	for what, m := range rights() {
		got, e := Run(m, 0)
		wantAnswer(t, what, got, e, m, 0)
	}
}

// P16.1: steps at the edges: MaxSteps are made, one more isn't, nor are those below 0; what is handed in stays.
func TestRunSteps(t *testing.T) {
	for _, name := range names() {
		m, _ := newBy(programs()[name], 2)
		for _, steps := range []int{65535, 65536} {
			got, e := Run(m, steps)
			if e != 0 || got.Count != uint64(steps) {
				t.Errorf("%s: error %d, Count %d behind %d steps", name, e, got.Count, steps)
			}
		}
		if name != "talker" { // whose many records TestRecordsBehind knows; step by step they take long
			wantRun(t, name, m, 65536)
		}
		for _, steps := range []int{65537, -1, -2, -65536, math.MinInt, math.MaxInt, 1 << 32, 1<<32 + 1, 1 << 20} {
			got, e := Run(m, steps)
			wantAnswer(t, fmt.Sprintf("%s: Run of %d", name, steps), got, e, api.Machine{}, 1)
		}
	}
}

// P16.1: a machine that may not be is told first, whatever the steps.
func TestRunWrong(t *testing.T) {
	for _, x := range wrongs() {
		m := busy(echo, 3)
		x.change(&m)
		for _, steps := range []int{0, 1, 64, 65536, 65537, -1, math.MinInt, math.MaxInt} {
			was := twin(m)
			got, e := Run(m, steps)
			what := fmt.Sprintf("%s: Run of %d", x.what, steps)
			wantAnswer(t, what, got, e, api.Machine{}, x.err)
			wantMachine(t, what+": what was handed in", m, was)
		}
	}
}

// sent: the records of a device that send these, numbered from the first on.
func sent(first uint64, dev int, list ...string) (out []api.Record) {
	for i, s := range list {
		out = append(out, api.Record{Num: first + uint64(i), Dev: dev, Bytes: s})
	}
	return out
}

// letters: each byte by itself.
func letters(s string) []string { return strings.Split(s, "") }

// P16.1: with which step each record of the programs is made, as written down by hand.
func TestKnownRecords(t *testing.T) {
	for _, x := range []struct {
		name  string
		in    string
		gives []string
		dev   int
		sends []string
		steps []int // with which each record is made
	}{
		{"echo", "hey", nil, 1, letters("hey"), []int{6, 12, 18}},
		{"squares", "", nil, 1, []string{"\x1d"}, []int{116}},
		{"mirror", "", []string{"a frame", "b", strings.Repeat("c", 64)}, 2, []string{"a frame", "b", strings.Repeat("c", 64)}, []int{11, 17, 23}},
		{"ticks", "", nil, 1, letters("TTTT"), []int{24, 54, 84, 114}},
		{"called", "\x00ab", nil, 1, letters("\x00ab"), []int{21, 27, 33}},
		{"asked", "", nil, 1, letters("UUU"), []int{11, 18, 25}},
		{"talker", "", nil, 1, letters("xxxxx"), []int{3, 5, 7, 9, 11}},
	} {
		m, _ := New(programs()[x.name], 2)
		m.Board.In, m.Board.Frames = x.in, x.gives
		list := sent(0, x.dev, x.sends...)
		for n, steps := range x.steps {
			ahead, _ := Run(m, steps-1)
			behind, e := Run(m, steps)
			if e != 0 || !slices.Equal(ahead.Outs, list[:n]) || !slices.Equal(behind.Outs, list[:n+1]) || behind.Next != uint64(n+1) || ahead.Next != uint64(n) {
				t.Errorf("%s: record %d: behind %d steps %q, behind %d %q", x.name, n, steps-1, told(ahead.Outs), steps, told(behind.Outs))
			}
		}
	}
}

// P16.1: what the programs leave, as written down by hand.
func TestKnownRuns(t *testing.T) {
	m, _ := New(squares(), 2)
	m.Ram.Epoch = 3
	got, _ := Run(m, 116)
	for i := range 10 {
		if n, _ := ram.Load(got.Ram, base+0x100+4*uint64(i), 4); n != uint64(i*i) {
			t.Errorf("the square of %d: %d", i, n)
		}
	}
	if !slices.Equal(got.Ram.Marks, []uint64{0, 3}) || got.Hart.X[9] != 285 || got.Hart.PC != base+68 {
		t.Errorf("squares: marks %v, register 9 %d, PC %x", got.Ram.Marks, got.Hart.X[9], got.Hart.PC)
	}

	m, _ = New(diskProgram(), 2)
	got, _ = Run(m, 20)
	if s := got.Board.Sectors; s[320:384] != sector[:64] || strings.Trim(s[:320]+s[384:], "\x00") != "" || string(got.Ram.Data[256:320]) != sector[:64] {
		t.Errorf("the disk: sectors %q, memory %q", s, got.Ram.Data[256:320])
	}
	if x := got.Hart.X; x[8] != 1 || x[9] != 1 || x[10] != 0 || x[11] != 3 || got.Hart.PC != base+80 {
		t.Errorf("the disk told %d, %d, %d, %d; PC %x", x[8], x[9], x[10], x[11], got.Hart.PC)
	}

	m, _ = New(asked(), 1)
	got, _ = Run(m, 6+7*50)
	if got.Hart.Mode != 0 || got.Hart.X[8] != 50 || got.Hart.PC != base+128 || got.Hart.C.Mcause != 8 {
		t.Errorf("calls: %+v", got.Hart)
	}

	m, _ = New("", 1)
	got, _ = Run(m, 1)
	if got.Hart.PC != 0 || got.Hart.C.Mcause != 2 || got.Hart.C.Mepc != base || got.Count != 1 {
		t.Errorf("noughts: %+v", got.Hart)
	}
	got, _ = Run(m, 65536)
	if got.Hart.PC != 0 || got.Hart.C.Mcause != 1 || got.Count != 65536 {
		t.Errorf("noughts at length: %+v", got.Hart)
	}
}

// P16.1: records are made behind those that are there, whatever they are; there may be many.
func TestRecordsBehind(t *testing.T) {
	m := busy(talker(), 1)
	got, e := Run(m, 65536)
	want := append(slices.Clone(m.Outs), sent(41, 1, letters(strings.Repeat("x", 32767))...)...)
	if e != 0 || !slices.Equal(got.Outs, want) || got.Next != 41+32767 {
		t.Errorf("error %d, %d records, Next %d", e, len(got.Outs), got.Next)
	}
	m.Outs, m.Next = []api.Record{{Num: 5, Dev: 9, Bytes: "any"}}, all-1
	got, _ = Run(m, 7)
	if s := told(got.Outs); s != "5:9:any 18446744073709551614:1:x 18446744073709551615:1:x 0:1:x" || got.Next != 1 {
		t.Errorf("Next at its end: %s, Next %d", s, got.Next)
	}
}

// P16.1: runs by chance.
func TestRunByChance(t *testing.T) {
	r := rand.New(rand.NewSource(1601))
	records := 0
	for n := range 150 {
		m := anyMachine(r)
		if e := Check(m); e != 0 {
			t.Fatalf("a machine of the tests: %d", e)
		}
		got := wantRun(t, fmt.Sprint("machine ", n), m, r.Intn(600))
		records += len(got.Outs) - len(m.Outs)
		wantCheck(t, "behind steps", got, 0)
	}
	if records < 500 {
		t.Errorf("%d records alone", records)
	}
}

// P16.1: inputs at the edges of Gap, Data and device, into all machines that may be.
func TestGive(t *testing.T) {
	for what, m := range rights() {
		for _, gap := range gaps() {
			wantGive(t, what, m, api.Input{ID: 7, Gap: gap, Dev: 1 + gap&1, Data: "data"})
		}
		for _, size := range sizes() {
			wantGive(t, what, m, api.Input{ID: all, Gap: 2, Dev: 1, Data: pattern(size, 8)})
			wantGive(t, what, m, api.Input{ID: 0, Gap: 2, Dev: 2, Data: pattern(size, 9)})
		}
		for _, dev := range devices() {
			wantGive(t, what, m, api.Input{Gap: 64, Dev: dev, Data: "data"})
		}
	}
}

// P16.1: what an input leaves, as written down by hand: so many steps first, then the bytes wait.
func TestKnownGives(t *testing.T) {
	for _, gap := range []int{1, 2, 5, 6, 63, 64} {
		for dev, data := range map[int]string{1: "ABC", 2: "a frame"} {
			m, _ := New(code(0x1000013, addi(5, 5, 1), 0xffdff06f), 1)
			m.Board.In, m.Board.Frames = "in", []string{"f"}
			got, e := Give(m, api.Input{ID: 3, Gap: gap, Dev: dev, Data: data})
			in, list := "in", []string{"f"}
			if dev == 1 {
				in = "inABC"
			} else {
				list = []string{"f", "a frame"}
			}
			if e != 0 || got.Count != uint64(gap) || got.Board.In != in || !slices.Equal(got.Board.Frames, list) {
				t.Errorf("Gap %d, device %d: error %d, Count %d, In %q, Frames %q", gap, dev, e, got.Count, got.Board.In, got.Board.Frames)
			}
			if got.Hart.X[5] != uint64(gap)/2 || got.Next != 0 || len(got.Outs) != 0 {
				t.Errorf("Gap %d, device %d: register 5 %d, Next %d", gap, dev, got.Hart.X[5], got.Next)
			}
			behind, _ := Run(m, gap)
			behind.Board.In, behind.Board.Frames = in, list
			wantMachine(t, "Give", got, behind)
		}
	}
}

// P16.1: the steps are made ahead of the input, which they don't know of.
func TestStepsFirst(t *testing.T) {
	m, _ := New(echo, 1)
	for gap := 1; gap <= 64; gap++ {
		got, _ := Give(m, api.Input{Gap: gap, Dev: 1, Data: "A"})
		if len(got.Outs) != 0 || got.Board.In != "A" {
			t.Errorf("Gap %d: records %s, In %q", gap, told(got.Outs), got.Board.In)
		}
	}
	m, _ = Give(m, api.Input{Gap: 1, Dev: 1, Data: "AB"})
	for gap, want := range map[int]string{4: "", 5: "0:1:A", 10: "0:1:A", 11: "0:1:A 1:1:B", 64: "0:1:A 1:1:B"} {
		got, _ := Give(m, api.Input{Gap: gap, Dev: 1, Data: "C"})
		if told(got.Outs) != want {
			t.Errorf("Gap %d: %s, want %s", gap, told(got.Outs), want)
		}
	}
}

// P16.1: an input that has no room is lost, but its steps are made; room that they make counts.
func TestNoRoom(t *testing.T) {
	for _, x := range []struct {
		waits, size int
		program     string
		left        int
	}{
		{1023, 1, "still", 1024}, {1024, 1, "still", 1024}, {960, 64, "still", 1024}, {961, 64, "still", 961}, {1024, 64, "still", 1024},
		{1023, 2, "still", 1023}, {1022, 2, "still", 1024}, {0, 64, "still", 64},
		{1024, 10, "echo", 1024}, {1024, 11, "echo", 1014}, {961, 64, "echo", 1015}, {971, 64, "echo", 961},
	} {
		m, _ := New(programs()[x.program], 1)
		m.Board.In = pattern(x.waits, 4)
		in := api.Input{ID: 1, Gap: 64, Dev: 1, Data: pattern(x.size, 5)}
		got := wantGive(t, x.program, m, in)
		if len(got.Board.In) != x.left || got.Count != 64 {
			t.Errorf("%s: of %d with %d more: %d, want %d; Count %d", x.program, x.waits, x.size, len(got.Board.In), x.left, got.Count)
		}
	}
	for _, x := range []struct {
		waits   int
		program string
		left    int
	}{
		{0, "still", 1}, {62, "still", 63}, {63, "still", 64}, {64, "still", 64}, {64, "mirror", 55}, {63, "mirror", 54}, {1, "mirror", 1},
	} {
		m, _ := New(programs()[x.program], 2)
		m.Board.Frames = frames(x.waits, 7)
		got := wantGive(t, x.program, m, api.Input{ID: 1, Gap: 64, Dev: 2, Data: "new"})
		if len(got.Board.Frames) != x.left || got.Count != 64 {
			t.Errorf("%s: of %d frames: %d, want %d; Count %d", x.program, x.waits, len(got.Board.Frames), x.left, got.Count)
		}
	}
}

// P16.1: likewise in Spec: those behind the lost one come, if they have room.
func TestSpecNoRoom(t *testing.T) {
	var inputs []api.Input
	for n := range 17 {
		inputs = append(inputs, api.Input{ID: uint64(n), Gap: 1, Dev: 1, Data: pattern(64-n/15, int64(n))})
	}
	inputs = append(inputs, api.Input{Gap: 1, Dev: 1, Data: "z"}, api.Input{Gap: 1, Dev: 1, Data: "y"})
	got := wantSpec(t, "bytes", code(still), 1, inputs...)
	if n := len(got.Board.In); n != 1024 || !strings.HasSuffix(got.Board.In, "z") || got.Count != 19 {
		t.Errorf("%d bytes wait, ending with %q, Count %d", n, got.Board.In[n-2:], got.Count)
	}
	inputs = nil
	for n := range 66 {
		inputs = append(inputs, api.Input{ID: uint64(n), Gap: 2, Dev: 2, Data: fmt.Sprint("frame ", n)})
	}
	got = wantSpec(t, "frames", code(still), 1, inputs...)
	if list := got.Board.Frames; len(list) != 64 || list[0] != "frame 0" || list[63] != "frame 63" || got.Count != 132 {
		t.Errorf("frames %q, Count %d", list, got.Count)
	}
}

// P16.1: of Give the input's error comes first, then the machine's.
func TestGiveErrors(t *testing.T) {
	bad := []api.Input{{}, {Gap: 0, Dev: 1, Data: "x"}, {Gap: 65, Dev: 1, Data: "x"}, {Gap: 1, Dev: 3, Data: "x"}, {Gap: 1, Dev: 2}, {Gap: -1, Dev: 2, Data: "x"}, {Gap: 5, Dev: 1, Data: pattern(65, 1)}}
	good := []api.Input{{Gap: 1, Dev: 1, Data: "x"}, {ID: all, Gap: 64, Dev: 2, Data: pattern(64, 1)}}
	for _, x := range wrongs() {
		m := busy(echo, 3)
		x.change(&m)
		was := twin(m)
		for _, in := range bad {
			got, e := Give(m, in)
			wantAnswer(t, fmt.Sprintf("%s: Give of %#v", x.what, in), got, e, api.Machine{}, 1)
		}
		for _, in := range good {
			got, e := Give(m, in)
			wantAnswer(t, fmt.Sprintf("%s: Give of %#v", x.what, in), got, e, api.Machine{}, x.err)
		}
		wantMachine(t, x.what+": what was handed in", m, was)
	}
	for _, in := range bad {
		got, e := Give(busy(echo, 3), in)
		wantAnswer(t, fmt.Sprintf("Give of %#v", in), got, e, api.Machine{}, 1)
	}
}

// P16.1: inputs by chance into machines by chance.
func TestGiveByChance(t *testing.T) {
	r := rand.New(rand.NewSource(1602))
	for n := range 100 {
		m := anyMachine(r)
		for _, in := range anyInputs(r, 6) {
			m = wantGive(t, fmt.Sprint("machine ", n), m, in)
			wantCheck(t, "behind an input", m, 0)
		}
	}
}

// P16.1: the chapter's example.
func TestExample(t *testing.T) {
	m, e := Spec(echo, 1, api.Input{ID: 1, Gap: 64, Dev: 1, Data: "AB"}, api.Input{ID: 2, Gap: 64, Dev: 1, Data: "C"})
	if e != 0 || told(m.Outs) != "0:1:A 1:1:B" || m.Next != 2 || m.Count != 128 || m.Board.In != "C" {
		t.Errorf("error %d, records %s, Next %d, Count %d, In %q", e, told(m.Outs), m.Next, m.Count, m.Board.In)
	}
}

// P16.1: Specs of several programs, as written down by hand.
func TestKnownSpecs(t *testing.T) {
	serial := func(gap int, data string) api.Input { return api.Input{Gap: gap, Dev: 1, Data: data} }
	frame := func(gap int, data string) api.Input { return api.Input{Gap: gap, Dev: 2, Data: data} }
	for _, x := range []struct {
		name   string
		inputs []api.Input
		want   string
		count  uint64
	}{
		{"echo", nil, "", 0},
		{"echo", []api.Input{serial(64, "A")}, "", 64},
		{"echo", []api.Input{serial(1, "A"), serial(4, "B"), serial(1, "C")}, "0:1:A", 6},
		{"echo", []api.Input{serial(1, "A"), serial(4, "B")}, "", 5},
		{"echo", []api.Input{serial(1, "A"), serial(10, "B"), serial(1, "C"), serial(64, "D")}, "0:1:A 1:1:B 2:1:C", 76},
		{"echo", []api.Input{serial(1, "A"), frame(64, "B"), frame(64, "C")}, "0:1:A", 129},
		{"mirror", []api.Input{frame(6, "one"), frame(5, "two"), serial(6, "x"), frame(64, "three")}, "0:2:one 1:2:two", 81},
		{"mirror", []api.Input{frame(6, "one"), frame(4, "two")}, "", 10},
		{"called", []api.Input{serial(19, "ab"), frame(4, "c"), serial(6, "d"), serial(5, "e")}, "0:1:a 1:1:b", 34},
		{"called", []api.Input{serial(19, "ab"), frame(4, "c"), serial(6, "d"), serial(6, "e")}, "0:1:a 1:1:b 2:1:d", 35},
		{"ticks", []api.Input{serial(24, "a"), serial(30, "b"), frame(29, "c")}, "0:1:T 1:1:T", 83},
		{"squares", []api.Input{serial(64, "a"), serial(51, "b"), serial(1, "c")}, `0:1:\x1d`, 116},
		{"still", []api.Input{serial(64, "a"), frame(64, "b")}, "", 128},
		{"nothing", []api.Input{serial(64, "a"), frame(64, "b")}, "", 128},
	} {
		got := wantSpec(t, x.name, programs()[x.name], 2, x.inputs...)
		if told(got.Outs) != x.want || got.Count != x.count {
			t.Errorf("%s: %q, want %q; Count %d, want %d", x.name, told(got.Outs), x.want, got.Count, x.count)
		}
	}
}

// P16.1: Spec is New, then Give of each.
func TestSpec(t *testing.T) {
	r := rand.New(rand.NewSource(1603))
	for n := range 60 {
		boot, leaves := anyProgram(r), 1+r.Intn(4)
		if n < len(names()) {
			boot = programs()[names()[n]]
		}
		inputs := anyInputs(r, []int{0, 1, 2, 30}[n%4])
		got := wantSpec(t, fmt.Sprint("program ", n), boot, leaves, inputs...)
		m, e := New(boot, leaves)
		for _, in := range inputs {
			if e != 0 {
				t.Fatalf("program %d: error %d", n, e)
			}
			m, e = Give(m, in)
		}
		wantMachine(t, "New, then Give", got, m)
		wantCheck(t, "behind a Spec", got, 0)
	}
}

// P16.1: of Spec New's errors come first, then the inputs', wherever they stand.
func TestSpecErrors(t *testing.T) {
	good := api.Input{Gap: 64, Dev: 1, Data: "x"}
	for _, bad := range []api.Input{{}, {Gap: 0, Dev: 1, Data: "x"}, {Gap: 65, Dev: 2, Data: "x"}, {Gap: 1, Dev: 0, Data: "x"}, {Gap: 1, Dev: 1}, {Gap: 1, Dev: 1, Data: pattern(65, 1)}} {
		for _, list := range [][]api.Input{{bad}, {bad, good}, {good, bad}, {good, bad, good}, {good, good, good, bad}, {bad, bad}} {
			got, e := Spec(echo, 1, list...)
			wantAnswer(t, fmt.Sprintf("Spec of %#v", list), got, e, api.Machine{}, 1)
			got, e = Spec(echo, 0, list...)
			wantAnswer(t, "Spec of no leaves", got, e, api.Machine{}, 50)
			got, e = Spec(pattern(300, 1), 257, list...)
			wantAnswer(t, "Spec of 257 leaves", got, e, api.Machine{}, 50)
			got, e = Spec(pattern(257, 1), 1, list...)
			wantAnswer(t, "Spec of a long boot", got, e, api.Machine{}, 2)
		}
	}
	for leaves, err := range map[int]api.Errno{0: 50, -1: 50, 257: 50, 1: 2} {
		got, e := Spec(pattern(257, 1), leaves, good)
		wantAnswer(t, fmt.Sprintf("Spec of %d leaves", leaves), got, e, api.Machine{}, err)
	}
}

// P16.1: the machine without its records, and these, of any machine.
func TestDrain(t *testing.T) {
	list := rights()
	list["no machine"] = api.Machine{}
	for _, x := range wrongs() {
		m := busy("", 3)
		x.change(&m)
		list[x.what] = m
	}
	for name, boot := range programs() {
		m, _ := New(boot, 2)
		list[name+", run"], _ = Run(m, 300)
	}
	for what, m := range list {
		was := twin(m)
		got, records := Drain(m)
		want := twin(m)
		want.Outs = nil
		wantMachine(t, what+": without records", got, want)
		if !slices.Equal(records, was.Outs) {
			t.Errorf("%s: %s, want %s", what, told(records), told(was.Outs))
		}
		wantMachine(t, what+": what was handed in", m, was)
		again, none := Drain(got)
		if len(none) != 0 {
			t.Errorf("%s: drained twice: %s", what, told(none))
		}
		wantMachine(t, what+": drained twice", again, want)
	}
}

// P16.1, P16.4: a machine that is drained goes on as the other one; its records have the numbers behind.
func TestDrainAndOn(t *testing.T) {
	m, _ := New(talker(), 1)
	var list []api.Record
	whole := m
	for _, steps := range []int{0, 2, 1, 1, 5, 300} {
		m, _ = Run(m, steps)
		whole, _ = Run(whole, steps)
		var some []api.Record
		m, some = Drain(m)
		list = append(list, some...)
		if !slices.Equal(list, whole.Outs) || m.Next != uint64(len(list)) {
			t.Errorf("behind %d more: %s, want %s; Next %d", steps, told(list), told(whole.Outs), m.Next)
		}
	}
	bare, _ := Drain(whole)
	wantMachine(t, "drained again and again", m, bare)
}

// wantOnAndOn: P16.2 of m and then n steps.
func wantOnAndOn(t *testing.T, what string, was api.Machine, m, n int) {
	t.Helper()
	what = fmt.Sprintf("%s: %d and %d steps", what, m, n)
	first, e := Run(was, m)
	if e != 0 {
		t.Fatalf("%s: error %d", what, e)
	}
	got, e := Run(first, n)
	want, err := Run(was, m+n)
	wantAnswer(t, what, got, e, want, err)
	if e != 0 {
		t.Errorf("%s: error %d", what, e)
	}
}

// P16.2: runs of m and then n steps beside one of m + n.
func TestOnAndOn(t *testing.T) {
	for what, m := range rights() {
		for _, x := range [][2]int{{0, 0}, {0, 1}, {1, 0}, {1, 1}, {4, 1}, {1, 4}, {5, 6}, {64, 64}, {23, 1}, {115, 1}, {300, 77}} {
			wantOnAndOn(t, what, m, x[0], x[1])
		}
	}
	for _, name := range names() {
		m, _ := New(programs()[name], 2)
		m.Board.In, m.Board.Frames = "some bytes", frames(4, 9)
		for first := range 60 {
			wantOnAndOn(t, name, m, first, 60-first)
		}
		for _, x := range [][2]int{{0, 65536}, {65536, 0}, {32768, 32768}, {1, 65535}, {65535, 1}} {
			wantOnAndOn(t, name, m, x[0], x[1])
		}
	}
	r := rand.New(rand.NewSource(1604))
	for n := range 100 {
		wantOnAndOn(t, fmt.Sprint("machine ", n), anyMachine(r), r.Intn(400), r.Intn(400))
	}
}

// P16.3: the records of fewer inputs are the beginning of those of more.
func TestOneWay(t *testing.T) {
	r := rand.New(rand.NewSource(1605))
	more := 0
	for n := range 80 {
		boot, leaves := anyProgram(r), 2+r.Intn(2)
		if n < len(names()) {
			boot = programs()[names()[n]]
		}
		inputs := anyInputs(r, 25)
		whole, _ := Spec(boot, leaves, inputs...)
		var last api.Machine
		for k := range len(inputs) + 1 {
			got, e := Spec(boot, leaves, inputs[:k]...)
			if e != 0 || len(got.Outs) > len(whole.Outs) || !slices.Equal(got.Outs, whole.Outs[:len(got.Outs)]) {
				t.Fatalf("program %d: error %d; %d inputs: %s; %d: %s", n, e, k, told(got.Outs), len(inputs), told(whole.Outs))
			}
			if len(got.Outs) < len(last.Outs) || !slices.Equal(last.Outs, got.Outs[:len(last.Outs)]) {
				t.Fatalf("program %d: %d inputs: %s, one fewer: %s", n, k, told(got.Outs), told(last.Outs))
			}
			if len(got.Outs) > len(last.Outs) {
				more++
			}
			last = got
		}
	}
	if more < 300 {
		t.Errorf("%d times alone there were more records", more)
	}
}

// P16.3: nor does the input that is other change anything ahead of it.
func TestOtherInput(t *testing.T) {
	r := rand.New(rand.NewSource(1606))
	for n := range 40 {
		boot := anyProgram(r)
		inputs := anyInputs(r, 8)
		ahead, _ := Spec(boot, 2, inputs...)
		for range 5 {
			got, e := Spec(boot, 2, append(slices.Clone(inputs), anyInputs(r, 2)...)...)
			if e != 0 || len(got.Outs) < len(ahead.Outs) || !slices.Equal(ahead.Outs, got.Outs[:len(ahead.Outs)]) {
				t.Errorf("program %d: error %d, %s, ahead %s", n, e, told(got.Outs), told(ahead.Outs))
			}
		}
	}
}

// P16.4: Spec's records are numbered 0, 1, 2 .., and Next is their number.
func TestNumbered(t *testing.T) {
	r := rand.New(rand.NewSource(1607))
	records := 0
	for n := range 80 {
		boot := anyProgram(r)
		if n < len(names()) {
			boot = programs()[names()[n]]
		}
		m, e := Spec(boot, 2, anyInputs(r, n)...)
		if e != 0 || m.Next != uint64(len(m.Outs)) {
			t.Errorf("program %d: error %d, %d records, Next %d", n, e, len(m.Outs), m.Next)
		}
		for i, record := range m.Outs {
			if record.Num != uint64(i) || record.Dev != 1 && record.Dev != 2 {
				t.Errorf("program %d: record %d: %#v", n, i, record)
			}
		}
		records += len(m.Outs)
	}
	if records < 3000 {
		t.Errorf("%d records alone", records)
	}
}

// P12.2 and P15.2, which Spec leans on: of right machines steps and inputs leave right ones.
func TestRightStaysRight(t *testing.T) {
	r := rand.New(rand.NewSource(1608))
	for range 200 {
		m := anyMachine(r)
		for range 5 {
			m, _ = Give(m, anyInputs(r, 1)[0])
			m, _ = Run(m, r.Intn(50))
			if ram.Check(m.Ram) != 0 || !hart.Right(m.Hart) || !dev.Right(m.Board) || !plic.Right(m.Board.Plic) || Check(m) != 0 {
				t.Fatalf("not right any more: %#v", m)
			}
		}
	}
}

// roomy: a machine whose lists have spare room.
func roomy(boot string) api.Machine {
	m := busy(boot, 2)
	m.Board.Frames = append(m.Board.Frames, "s", "p", "a", "r", "e")[:2]
	m.Ram.Data = append(m.Ram.Data, strings.Repeat("s", 300)...)[:512]
	m.Ram.Marks = append(m.Ram.Marks, 91, 92, 93)[:2]
	spare := api.Record{Num: 99, Dev: 99, Bytes: "spare"}
	m.Outs = append(m.Outs, spare, spare, spare)[:2]
	return m
}

// whole: the machine with its lists' spare room.
func whole(m api.Machine) api.Machine {
	m.Board.Frames, m.Outs = m.Board.Frames[:cap(m.Board.Frames)], m.Outs[:cap(m.Outs)]
	m.Ram.Data, m.Ram.Marks = m.Ram.Data[:cap(m.Ram.Data)], m.Ram.Marks[:cap(m.Ram.Marks)]
	return m
}

// scribble: other things in all lists, in the spare room too.
func scribble(m api.Machine) {
	m = whole(m)
	for i := range m.Board.Frames {
		m.Board.Frames[i] += "!"
	}
	for i := range m.Outs {
		m.Outs[i].Num, m.Outs[i].Bytes = m.Outs[i].Num+1, "!"
	}
	for i := range m.Ram.Data {
		m.Ram.Data[i] ^= 0xff
	}
	for i := range m.Ram.Marks {
		m.Ram.Marks[i] ^= 0xff
	}
}

// P1 (nothing handed in is changed or kept): answers share nothing with what was handed in, its spare room neither.
func TestNewMemory(t *testing.T) {
	for _, name := range names() {
		for what, call := range map[string]func(m api.Machine) api.Machine{
			"Check":         func(m api.Machine) api.Machine { Check(m); return api.Machine{} },
			"Run of 0":      func(m api.Machine) api.Machine { m, _ = Run(m, 0); return m },
			"Run of 1":      func(m api.Machine) api.Machine { m, _ = Run(m, 1); return m },
			"Run of 500":    func(m api.Machine) api.Machine { m, _ = Run(m, 500); return m },
			"a serial Give": func(m api.Machine) api.Machine { m, _ = Give(m, api.Input{Gap: 64, Dev: 1, Data: "x"}); return m },
			"a frame":       func(m api.Machine) api.Machine { m, _ = Give(m, api.Input{Gap: 1, Dev: 2, Data: "x"}); return m },
			"a refused one": func(m api.Machine) api.Machine { m, _ = Give(m, api.Input{}); return m },
			"Drain": func(m api.Machine) api.Machine {
				m, records := Drain(m)
				m.Outs = records
				return m
			},
		} {
			m := roomy(programs()[name])
			first := call(m)
			kept := twin(first)
			wantMachine(t, name+", "+what+": what was handed in", whole(m), whole(roomy(programs()[name])))
			scribble(first)
			wantMachine(t, name+", "+what+": behind a change of the answer", whole(m), whole(roomy(programs()[name])))
			second := call(m)
			scribble(m)
			wantMachine(t, name+", "+what+": the answer, behind a change of what was handed in", second, kept)
		}
	}
}

// P1: what Drain tells apart shares nothing: the machine that goes on writes no record over those that were told.
func TestDrainApart(t *testing.T) {
	m, _ := New(talker(), 1)
	m, _ = Run(m, 20)
	m, list := Drain(m)
	kept := slices.Clone(list[:cap(list)])
	on, _ := Run(m, 100)
	scribble(on)
	scribble(m)
	if !slices.Equal(list[:cap(list)], kept) || len(list) != 9 {
		t.Errorf("%s, was %s", told(list), told(kept))
	}
}

// P1: the list of inputs stays as it is, its spare room too; the machines that Spec and New make share nothing.
func TestInputsStay(t *testing.T) {
	r := rand.New(rand.NewSource(1609))
	list := anyInputs(r, 9)
	kept := slices.Clone(list)
	boot := anyProgram(r)
	one, _ := Spec(boot, 2, list[:5]...)
	same := twin(one)
	other, _ := Spec(boot, 2, list[:5]...)
	if !slices.Equal(list, kept) {
		t.Error("the inputs changed")
	}
	scribble(other)
	clear(list)
	wantMachine(t, "the first Spec", one, same)
	a, _ := New(boot, 2)
	b, _ := New(boot, 2)
	scribble(b)
	want, _ := newBy(boot, 2)
	wantMachine(t, "the first New", a, want)
}

// P1, DOC.md's rule 4: nothing is kept from call to call: the same calls answer the same, in the other order too.
func TestAsksNothingElse(t *testing.T) {
	r := rand.New(rand.NewSource(1610))
	var calls []func() string
	for n := range 80 {
		m, boot, inputs := anyMachine(r), anyProgram(r), anyInputs(r, 3)
		if n%3 == 0 {
			wrongs()[r.Intn(len(wrongs()))].change(&m)
		}
		calls = append(calls, func() string {
			a, e := Run(m, 50)
			b, err := Give(m, inputs[0])
			c, no := Spec(boot, 2, inputs...)
			d, records := Drain(m)
			return fmt.Sprint(Check(m), a, e, b, err, c, no, d, records, Input(inputs[1]))
		})
	}
	var answers []string
	for _, call := range calls {
		answers = append(answers, call())
	}
	for i := len(calls) - 1; i >= 0; i-- {
		if calls[i]() != answers[i] {
			t.Errorf("call %d: another answer", i)
		}
	}
}

// anything: a machine of any kind.
func anything(r *rand.Rand) api.Machine {
	m := anyMachine(r)
	if r.Intn(2) == 0 {
		wrongs()[r.Intn(len(wrongs()))].change(&m)
	}
	if n := r.Intn(900); r.Intn(2) == 0 {
		m.Ram.Data, m.Ram.Marks = []byte(pattern(n, 1)), make([]uint64, r.Intn(5))
	}
	if r.Intn(2) == 0 {
		h := &m.Hart
		h.Mode, h.PC, h.X[0], h.C.Satp = int(r.Uint64()>>r.Intn(64)), r.Uint64(), r.Uint64(), r.Uint64()
		m.Board.Sectors = pattern(r.Intn(2000), 1)
		m.Board.Plic.Prio[r.Intn(4)], m.Board.Plic.Level[r.Intn(2)] = r.Uint32(), r.Uint32()
	}
	return m
}

// P1: all arguments of any kind.
func TestAnything(t *testing.T) {
	r := rand.New(rand.NewSource(1611))
	number := func() int {
		n := int(r.Uint64() >> r.Intn(64))
		if r.Intn(2) == 0 {
			return -n
		}
		return n
	}
	for range 500 {
		m, boot := anything(r), pattern(r.Intn(600), r.Int63())
		in := api.Input{ID: r.Uint64(), Gap: number(), Dev: number(), Data: pattern(r.Intn(100), 1)}
		wantCheck(t, "anything", m, checkBy(m))
		wantRun(t, "anything", m, number())
		wantRun(t, "anything", m, r.Intn(100))
		wantGive(t, "anything", m, in)
		wantGive(t, "anything", m, anyInputs(r, 1)[0])
		wantSpec(t, "anything", boot, number(), in)
		wantSpec(t, "anything", boot, 1+r.Intn(4), append(anyInputs(r, 4), in)...)
		wantSpec(t, "anything", boot, 1+r.Intn(4), anyInputs(r, 4)...)
		if Input(in) != inputBy(in) {
			t.Errorf("Input of %#v", in)
		}
		was := twin(m)
		got, records := Drain(m)
		got.Outs = records
		wantMachine(t, "Drain", got, was)
	}
}
