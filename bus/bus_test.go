package bus

import (
	"fmt"
	"math"
	"math/rand"
	"slices"
	"strings"
	"testing"

	"tandem/api"
	"tandem/dev"
	"tandem/plic"
	"tandem/ram"
)

const (
	all  = uint64(1<<64 - 1)
	base = uint64(0x80000000)
)

// A spot is a place of chapters 12 and 13 as their tables have it, of a whole machine; what it hasn't, it may not.
type spot struct {
	at    uint64
	size  int
	read  func(m *api.Machine) uint64
	write func(m *api.Machine, v uint64)
}

// number: 1 for what is so.
func number(so bool) uint64 {
	if so {
		return 1
	}
	return 0
}

// places: the tables.
func places() []spot {
	type machine = api.Machine
	list := []spot{
		{0x2000000, 4, func(m *machine) uint64 { return number(m.Board.Msip) }, func(m *machine, v uint64) { m.Board.Msip = v%2 != 0 }},
		{0x2004000, 8, func(m *machine) uint64 { return m.Board.Cmp }, func(m *machine, v uint64) { m.Board.Cmp = v }},
		{0x200bff8, 8, func(m *machine) uint64 { return m.Count }, nil},
		{0x10000000, 1, firstByte, func(m *machine, v uint64) { goOut(m, 1, string([]byte{byte(v % 256)})) }},
		{0x10000001, 1, func(m *machine) uint64 { return number(m.Board.Ier) }, func(m *machine, v uint64) { m.Board.Ier = v%2 != 0 }},
		{0x10000005, 1, func(m *machine) uint64 { return 0x60 + number(len(m.Board.In) != 0) }, nil},
		{0x10001000, 8, func(m *machine) uint64 { return m.Board.Sector }, func(m *machine, v uint64) { m.Board.Sector = v }},
		{0x10001008, 8, func(m *machine) uint64 { return m.Board.Addr }, func(m *machine, v uint64) { m.Board.Addr = v }},
		{0x10001010, 8, nil, func(m *machine, v uint64) { choose(m, v, readDisk, writeDisk) }},
		{0x10001018, 8, func(m *machine) uint64 {
			n := number(m.Board.Done) + 2*number(m.Board.Bad)
			m.Board.Done = false
			return n
		}, nil},
		{0x10002000, 8, func(m *machine) uint64 {
			for _, frame := range m.Board.Frames {
				return uint64(len(frame))
			}
			return 0
		}, nil},
		{0x10002008, 8, func(m *machine) uint64 { return m.Board.NicAddr }, func(m *machine, v uint64) { m.Board.NicAddr = v }},
		{0x10002010, 8, nil, func(m *machine, v uint64) { choose(m, v, receive, transmit) }},
		{0x10002018, 8, func(m *machine) uint64 { return m.Board.NicLen }, func(m *machine, v uint64) { m.Board.NicLen = v }},
		{0xc001000, 4, func(m *machine) (n uint64) {
			for source := 1; source <= 3; source++ {
				n += number(waits(m, source)) << source
			}
			return n
		}, nil},
	}
	for source, at := range []uint64{1: 0xc000004, 2: 0xc000008, 3: 0xc00000c} {
		if source > 0 {
			prio := func(m *machine) *uint32 { return &m.Board.Plic.Prio[source] }
			list = append(list, spot{at, 4, field(prio), bits(prio, 7)})
		}
	}
	for who, at := range [][3]uint64{{0xc002000, 0xc200000, 0xc200004}, {0xc002080, 0xc201000, 0xc201004}} {
		enable := func(m *machine) *uint32 { return &m.Board.Plic.Enable[who] }
		level := func(m *machine) *uint32 { return &m.Board.Plic.Level[who] }
		list = append(list, spot{at[0], 4, field(enable), bits(enable, 14)}, spot{at[1], 4, field(level), bits(level, 7)},
			spot{at[2], 4, func(m *machine) uint64 {
				n := best(m, who)
				if n != 0 {
					m.Board.Plic.Claimed += 1 << n
				}
				return uint64(n)
			}, func(m *machine, v uint64) {
				if n := v % (1 << 32); n >= 1 && n <= 3 && has(*enable(m), int(n)) && has(m.Board.Plic.Claimed, int(n)) {
					m.Board.Plic.Claimed -= 1 << n
				}
			}})
	}
	return list
}

// field and bits: a place of package plic that tells a field, and that takes some of its bits.
func field(of func(m *api.Machine) *uint32) func(m *api.Machine) uint64 {
	return func(m *api.Machine) uint64 { return uint64(*of(m)) }
}

func bits(of func(m *api.Machine) *uint32, mask uint32) func(m *api.Machine, v uint64) {
	return func(m *api.Machine, v uint64) { *of(m) = uint32(v) & mask }
}

// firstByte: what a read of the serial line tells.
func firstByte(m *api.Machine) uint64 {
	for _, c := range []byte(m.Board.In) {
		m.Board.In = m.Board.In[1:]
		return uint64(c)
	}
	return 0
}

// has: has the set this source?
func has(set uint32, source int) bool { return set/(1<<source)%2 == 1 }

// waits: does the source wait?
func waits(m *api.Machine, source int) bool {
	b := m.Board
	asks := map[int]bool{1: b.Ier && len(b.In) != 0, 2: b.Done, 3: len(b.Frames) != 0}
	return asks[source] && !has(b.Plic.Claimed, source)
}

// best: the source that interrupts who.
func best(m *api.Machine, who int) int {
	n, top := 0, m.Board.Plic.Level[who]
	for source := 1; source <= 3; source++ {
		if prio := m.Board.Plic.Prio[source]; waits(m, source) && has(m.Board.Plic.Enable[who], source) && prio > top {
			n, top = source, prio
		}
	}
	return n
}

// choose: an order: 1 is the first, 2 the second, others nothing.
func choose(m *api.Machine, v uint64, first, second func(m *api.Machine)) {
	if v == 1 {
		first(m)
	}
	if v == 2 {
		second(m)
	}
}

// goOut: a record.
func goOut(m *api.Machine, dev int, s string) {
	m.Outs = append(slices.Clone(m.Outs), api.Record{Num: m.Next, Dev: dev, Bytes: s})
	m.Next++
}

func readDisk(m *api.Machine) {
	b := &m.Board
	whole := len(b.Sectors) == 1024
	b.Done, b.Bad = true, b.Sector > 15 || whole && !thereBy(m.Ram, b.Addr, 64)
	if !b.Bad && whole {
		putBy(m, b.Addr, b.Sectors[64*b.Sector:][:64])
	}
}

func writeDisk(m *api.Machine) {
	b := &m.Board
	b.Done, b.Bad = true, b.Sector > 15 || !thereBy(m.Ram, b.Addr, 64)
	if !b.Bad && len(b.Sectors) == 1024 {
		at := 64 * b.Sector
		b.Sectors = b.Sectors[:at] + textBy(m.Ram, b.Addr, 64) + b.Sectors[at+64:]
	}
}

func receive(m *api.Machine) {
	if b := &m.Board; len(b.Frames) != 0 && thereBy(m.Ram, b.NicAddr, len(b.Frames[0])) {
		putBy(m, b.NicAddr, b.Frames[0])
		b.Frames = slices.Clone(b.Frames[1:])
	}
}

func transmit(m *api.Machine) {
	if b := m.Board; b.NicLen > 0 && b.NicLen < 65 && thereBy(m.Ram, b.NicAddr, int(b.NicLen)) {
		goOut(m, 2, textBy(m.Ram, b.NicAddr, int(b.NicLen)))
	}
}

// thereBy: are so many bytes there? Address by address: a sum that goes round is below the base.
func thereBy(m api.Ram, at uint64, size int) bool {
	for i := range uint64(size) {
		if at+i < base || at+i-base >= uint64(len(m.Data)) {
			return false
		}
	}
	return true
}

// putBy: the bytes, which are there, in the memory, which is made anew.
func putBy(m *api.Machine, at uint64, s string) {
	m.Ram = twinRam(m.Ram)
	for i := range len(s) {
		n := int(at + uint64(i) - base)
		m.Ram.Data[n] = s[i]
		if n/256 < len(m.Ram.Marks) {
			m.Ram.Marks[n/256] = m.Ram.Epoch
		}
	}
}

// textBy: the bytes, which are there.
func textBy(m api.Ram, at uint64, size int) string {
	return string(m.Data[at-base:][:size])
}

// loadBy: Load, as the chapters' words tell it.
func loadBy(m *api.Machine, at uint64, size int) (uint64, bool) {
	if slices.Contains([]int{1, 2, 4, 8}, size) && thereBy(m.Ram, at, size) {
		n := uint64(0)
		for i := range size {
			n += uint64(m.Ram.Data[at-base+uint64(i)]) << (8 * i)
		}
		return n, true
	}
	for _, x := range places() {
		if x.at == at && x.size == size && x.read != nil {
			return x.read(m), true
		}
	}
	return 0, false
}

// storeBy: Store, likewise.
func storeBy(m *api.Machine, at uint64, size int, v uint64) bool {
	if slices.Contains([]int{1, 2, 4, 8}, size) && thereBy(m.Ram, at, size) {
		putBy(m, at, lowBytes(v, size))
		return true
	}
	for _, x := range places() {
		if x.at == at && x.size == size && x.write != nil {
			x.write(m, v)
			return true
		}
	}
	return false
}

// lowBytes: the low bytes of a number, the least first.
func lowBytes(v uint64, size int) string {
	var s []byte
	for range size {
		s = append(s, byte(v%256))
		v /= 256
	}
	return string(s)
}

// linesBy: Lines, likewise.
func linesBy(m api.Machine) (n uint64) {
	for bit, on := range map[int]bool{3: m.Board.Msip, 7: m.Count >= m.Board.Cmp, 9: best(&m, 1) != 0, 11: best(&m, 0) != 0} {
		n += number(on) << bit
	}
	return n
}

// twin and twinRam: the same, made apart from the program.
func twin(m api.Machine) api.Machine {
	m.Board.Frames, m.Ram, m.Outs = slices.Clone(m.Board.Frames), twinRam(m.Ram), slices.Clone(m.Outs)
	return m
}

func twinRam(m api.Ram) api.Ram {
	return api.Ram{Data: slices.Clone(m.Data), Marks: slices.Clone(m.Marks), Epoch: m.Epoch}
}

// unlike: what differs; a list that holds nothing may be nil or empty.
func unlike(got, want api.Machine) (s string) {
	tell := func(what string, a, b any) {
		s += fmt.Sprintf("\n\t%s: %.300v, want %.300v", what, fmt.Sprint(a), fmt.Sprint(b))
	}
	if got.Hart != want.Hart {
		tell("Hart", got.Hart, want.Hart)
	}
	if got.Board.Sectors != want.Board.Sectors {
		tell("Sectors", []byte(got.Board.Sectors), []byte(want.Board.Sectors))
	}
	if !slices.Equal(got.Board.Frames, want.Board.Frames) {
		tell("Frames", got.Board.Frames, want.Board.Frames)
	}
	for _, m := range []*api.Machine{&got, &want} {
		m.Board.Sectors, m.Board.Frames = "", nil
	}
	if a, b := fmt.Sprintf("%+v", got.Board), fmt.Sprintf("%+v", want.Board); a != b {
		tell("Board", a, b)
	}
	if !slices.Equal(got.Ram.Data, want.Ram.Data) {
		tell("Data", len(got.Ram.Data), len(want.Ram.Data))
	}
	if !slices.Equal(got.Ram.Marks, want.Ram.Marks) || got.Ram.Epoch != want.Ram.Epoch {
		tell("Epoch and marks", []any{got.Ram.Epoch, got.Ram.Marks}, []any{want.Ram.Epoch, want.Ram.Marks})
	}
	if got.Count != want.Count || got.Next != want.Next {
		tell("Count and Next", []uint64{got.Count, got.Next}, []uint64{want.Count, want.Next})
	}
	if !slices.Equal(got.Outs, want.Outs) {
		tell("Outs", got.Outs, want.Outs)
	}
	return s
}

func wantMachine(t *testing.T, what string, got, want api.Machine) {
	t.Helper()
	if s := unlike(got, want); s != "" {
		t.Errorf("%s:%s", what, s)
	}
}

// wantLoad: Load answers so, and leaves the machine so; what was pointed at stays as it is.
func wantLoad(t *testing.T, m api.Machine, at uint64, size int, behind api.Machine, n uint64, ok bool) {
	t.Helper()
	got := twin(m)
	told, may := Load(&got, at, size)
	what := fmt.Sprintf("Load(%x, %d)", at, size)
	if told != n || may != ok {
		t.Errorf("%s: %x, %v, want %x, %v", what, told, may, n, ok)
	}
	wantMachine(t, what, got, behind)
}

// wantStore: Store, likewise.
func wantStore(t *testing.T, m api.Machine, at uint64, size int, v uint64, behind api.Machine, ok bool) {
	t.Helper()
	got := twin(m)
	what := fmt.Sprintf("Store(%x, %d, %x)", at, size, v)
	if may := Store(&got, at, size, v); may != ok {
		t.Errorf("%s: %v, want %v", what, may, ok)
	}
	wantMachine(t, what, got, behind)
}

// wantWords: all calls answer as the chapters' words tell it.
func wantWords(t *testing.T, m api.Machine, at uint64, size int, v uint64) {
	t.Helper()
	behind := twin(m)
	n, ok := loadBy(&behind, at, size)
	wantLoad(t, m, at, size, behind, n, ok)
	behind = twin(m)
	ok = storeBy(&behind, at, size, v)
	wantStore(t, m, at, size, v, behind, ok)
	wantLines(t, m, linesBy(m))
}

func wantLines(t *testing.T, m api.Machine, want uint64) {
	t.Helper()
	before := twin(m)
	if n := Lines(m); n != want {
		t.Errorf("Lines: %x, want %x (Count %x, board %.300s)", n, want, m.Count, fmt.Sprintf("%+v", m.Board))
	}
	wantMachine(t, "what Lines was given", m, before)
}

// pattern: so many bytes by chance, the same ones each time.
func pattern(n int, seed int64) string {
	b := make([]byte, n)
	rand.New(rand.NewSource(seed)).Read(b)
	return string(b)
}

// memory: of so many leaves, with bytes by chance and some marks.
func memory(leaves int) api.Ram {
	m := api.Ram{Data: []byte(pattern(leaves*256, 5)), Marks: make([]uint64, leaves), Epoch: 9}
	for i := range m.Marks {
		m.Marks[i] = uint64(i % 7)
	}
	return m
}

// busy: a right machine, of which no field is nothing.
func busy() api.Machine {
	return api.Machine{
		Hart: api.Hart{X: [32]uint64{1: 11, 31: 13}, PC: base + 8, Mode: 1, C: api.Csr{Mie: 0x88, Satp: 5}, Held: true, At: base},
		Board: api.Board{
			Msip: true, Cmp: 0x1122334455667788, In: "\xf0bc", Ier: true,
			Sectors: pattern(1024, 12), Sector: 3, Addr: base + 0x40, Done: true, Bad: true,
			Frames: []string{"first", "second one", "3"}, NicAddr: base + 0x100, NicLen: 5,
			Plic: api.Plic{Prio: [4]uint32{0, 1, 2, 7}, Enable: [2]uint32{14, 2}, Level: [2]uint32{1, 2}, Claimed: 4},
		},
		Ram: memory(3), Count: 0x0123456789abcdef, Next: 7,
		Outs: []api.Record{{Num: 5, Dev: api.Network, Bytes: "five"}, {Num: 6, Dev: api.Serial, Bytes: "6"}},
	}
}

// with: a busy machine with one thing changed.
func with(change func(m *api.Machine)) api.Machine {
	m := busy()
	change(&m)
	return m
}

// fresh: a machine that is switched on, as chapter 16 has it.
func fresh() api.Machine {
	return api.Machine{
		Hart:  api.Hart{PC: base, Mode: api.Boss},
		Board: api.Board{Cmp: all, Sectors: strings.Repeat("\x00", 1024)},
		Ram:   api.Ram{Data: make([]byte, 256), Marks: make([]uint64, 1)},
	}
}

// someNumbers: those that tell places, sectors, lengths and sources apart, and such as make sums and products go round.
func someNumbers() []uint64 {
	return []uint64{0, 1, 2, 3, 4, 5, 7, 8, 14, 15, 16, 63, 64, 65, 255, 256, 257, 1 << 26, 1 << 31, 1 << 32, 1<<32 + 1, 1<<32 + 2,
		1 << 58, base, base + 0x2c0, base + 0x2c1, base - 1, 1 << 63, 1<<63 + 1, all - 63, all - 1, all}
}

// memories: such as may be, and such as may not.
func memories() []api.Ram {
	three := memory(3)
	return []api.Ram{
		{}, {Epoch: 3}, {Data: []byte("few")}, {Data: []byte("x"), Marks: []uint64{1}}, {Marks: make([]uint64, 2)}, memory(1), three,
		memory(256), {Data: three.Data, Epoch: 2}, {Data: three.Data[:64], Marks: []uint64{7}}, {Data: three.Data[:63], Marks: []uint64{0}},
		{Data: three.Data[:300], Marks: []uint64{all}, Epoch: 1}, {Data: three.Data, Marks: make([]uint64, 9), Epoch: all},
	}
}

// machines: right ones and wrong ones.
func machines() []api.Machine {
	list := []api.Machine{{}, fresh(), busy()}
	for _, m := range memories() {
		list = append(list, with(func(x *api.Machine) { x.Ram = m }))
	}
	for _, n := range someNumbers() {
		list = append(list, with(func(m *api.Machine) { m.Count, m.Next = n, n }),
			with(func(m *api.Machine) { m.Board.Sector, m.Board.NicLen, m.Board.Cmp = n, n, n }),
			with(func(m *api.Machine) { m.Board.Addr, m.Board.NicAddr, m.Board.NicLen = n, n, 64 }),
			with(func(m *api.Machine) {
				p := uint32(n)
				m.Board.Plic = api.Plic{Prio: [4]uint32{p, p, 2, p}, Enable: [2]uint32{p, ^p}, Level: [2]uint32{0, p}, Claimed: ^p}
			}))
	}
	for _, size := range []int{0, 1, 64, 1023, 1025, 3000} {
		list = append(list, with(func(m *api.Machine) { m.Board.In, m.Board.Sectors = pattern(size, 3), pattern(size, 4) }),
			with(func(m *api.Machine) { m.Board.Frames = []string{pattern(size, 1), "next"} }),
			with(func(m *api.Machine) { m.Board.Frames, m.Outs = make([]string, size), make([]api.Record, size) }))
	}
	return append(list, with(func(m *api.Machine) { m.Hart = api.Hart{X: [32]uint64{0: 5}, PC: 3, Mode: -7, At: 9} }))
}

// sizes: those of places, those beside them, and others.
func sizes() []int {
	return []int{math.MinInt, -8, -4, -2, -1, 0, 1, 2, 3, 4, 5, 6, 7, 8, 9, 16, 64, 256, 1<<32 + 1, 1<<32 + 4, 1<<32 + 8, math.MaxInt}
}

// someAddresses: all that lie around the places and around the edges of package plic's, and some far from them.
func someAddresses() (list []uint64) {
	for _, x := range places() {
		for d := range uint64(9) {
			list = append(list, x.at+d, x.at-d)
		}
		list = append(list, x.at+1<<32, x.at+1<<63, x.at+base, x.at>>1, x.at<<1)
	}
	for d := range uint64(9) {
		list = append(list, 0xc000000+d, 0xc000000-d, 0xc400000+d, 0xc400000-d)
	}
	return append(list, 0, 1, 7, 8, 0x40000000, 1<<63, all-8, all-7, all-3, all-1, all)
}

// edges: the addresses at which memory begins and ends, those beside them, and others in it and outside it.
func edges(m api.Ram) []uint64 {
	end := base + uint64(len(m.Data))
	list := []uint64{base + 1<<32, base + 1<<63, base >> 1, 0, all - 7, all}
	for d := range uint64(10) {
		list = append(list, base+d, base-d, base+250+d, end+d, end-d)
	}
	return list
}

// P14.1: Copy: the same, whatever it is.
func TestCopy(t *testing.T) {
	for _, m := range machines() {
		before := twin(m)
		wantMachine(t, "Copy", Copy(m), before)
		wantMachine(t, "what Copy was given", m, before)
	}
}

// P14.1: Lines: each line alone and with others, as written down by hand.
func TestKnownLines(t *testing.T) {
	for _, x := range []struct {
		what   string
		change func(m *api.Machine)
		want   uint64
	}{
		{"nothing", func(m *api.Machine) {}, 0},
		{"Msip", func(m *api.Machine) { m.Board.Msip = true }, 8},
		{"the count below Cmp", func(m *api.Machine) { m.Board.Cmp, m.Count = 5, 4 }, 0},
		{"the count at Cmp", func(m *api.Machine) { m.Board.Cmp, m.Count = 5, 5 }, 0x80},
		{"the count above Cmp", func(m *api.Machine) { m.Board.Cmp, m.Count = 5, 6 }, 0x80},
		{"the greatest count but one", func(m *api.Machine) { m.Count = all - 1 }, 0},
		{"the greatest count", func(m *api.Machine) { m.Count = all }, 0x80},
		{"Next is no count", func(m *api.Machine) { m.Board.Cmp, m.Next = 5, 9 }, 0},
		{"bytes that wait, for the upper one", func(m *api.Machine) { m.Board.In = "a"; enable(m, 0, 2) }, 0x800},
		{"bytes that wait, for the middle one", func(m *api.Machine) { m.Board.In = "a"; enable(m, 1, 2) }, 0x200},
		{"bytes that wait, without Ier", func(m *api.Machine) { m.Board.In = "a"; enable(m, 1, 2); m.Board.Ier = false }, 0},
		{"no bytes", func(m *api.Machine) { enable(m, 0, 14) }, 0},
		{"the disk, for the upper one", func(m *api.Machine) { m.Board.Done = true; enable(m, 0, 4) }, 0x800},
		{"the disk, for the middle one", func(m *api.Machine) { m.Board.Done = true; enable(m, 1, 4) }, 0x200},
		{"the disk, but another is enabled", func(m *api.Machine) { m.Board.Done = true; enable(m, 1, 10) }, 0},
		{"a frame, for the upper one", func(m *api.Machine) { m.Board.Frames = []string{""}; enable(m, 0, 8) }, 0x800},
		{"a frame, for the middle one", func(m *api.Machine) { m.Board.Frames = []string{"x"}; enable(m, 1, 8) }, 0x200},
		{"a frame that is dealt with", func(m *api.Machine) { m.Board.Frames = []string{"x"}; enable(m, 1, 8); m.Board.Plic.Claimed = 8 }, 0},
		{"a frame, at the level", func(m *api.Machine) { m.Board.Frames = []string{"x"}; enable(m, 1, 8); m.Board.Plic.Level[1] = 3 }, 0},
		{"all", func(m *api.Machine) {
			m.Board.Done, m.Board.Msip, m.Board.Cmp = true, true, 0
			enable(m, 0, 4)
			enable(m, 1, 4)
		}, 0xa88},
		{"waiting in Mip is the processor's", func(m *api.Machine) { m.Hart.C.Mip, m.Hart.C.Mie = 0xaaa, 0xaaa }, 0},
	} {
		m := fresh()
		x.change(&m)
		if n := Lines(m); n != x.want || linesBy(m) != x.want {
			t.Errorf("%s: %x, want %x", x.what, n, x.want)
		}
	}
	for _, m := range machines() {
		wantLines(t, m, linesBy(m))
	}
}

// enable: sources with Prio 3 each are enabled for one of the two, and Ier is on.
func enable(m *api.Machine, who int, sources uint32) {
	m.Board.Ier, m.Board.Plic.Prio, m.Board.Plic.Enable[who] = true, [4]uint32{0, 3, 3, 3}, sources
}

// P14.1: Load and Store of memory: each size at its first and last bytes, beside them and outside, in all memories.
func TestMemory(t *testing.T) {
	for _, mem := range memories() {
		m := with(func(m *api.Machine) { m.Ram = mem })
		for _, at := range edges(mem) {
			for _, size := range []int{1, 2, 4, 8} {
				wantWords(t, m, at, size, 0x8877665544332211)
			}
		}
	}
}

// P14.1: Load and Store of memory, as written down by hand.
func TestKnownMemory(t *testing.T) {
	one := func(data string, marks ...uint64) api.Machine {
		return with(func(m *api.Machine) {
			m.Ram = api.Ram{Data: []byte(data + strings.Repeat(".", 512-len(data)-8) + "stuvwxyz"), Marks: marks, Epoch: 4}
		})
	}
	m := one("abcdefghij", 1, 2)
	for _, x := range []struct {
		at   uint64
		size int
		n    uint64
		ok   bool
	}{
		{base, 1, 0x61, true}, {base, 2, 0x6261, true}, {base, 4, 0x64636261, true}, {base, 8, 0x6867666564636261, true},
		{base + 1, 8, 0x6968676665646362, true}, {base + 511, 1, 0x7a, true}, {base + 510, 2, 0x7a79, true},
		{base + 508, 4, 0x7a797877, true}, {base + 504, 8, 0x7a79787776757473, true}, {base + 512, 1, 0, false},
		{base + 511, 2, 0, false}, {base + 509, 4, 0, false}, {base + 505, 8, 0, false}, {base - 1, 1, 0, false},
		{base - 1, 2, 0, false}, {base - 1, 8, 0, false}, {base, 0, 0, false}, {base, 3, 0, false}, {base, 16, 0, false},
	} {
		wantLoad(t, m, x.at, x.size, m, x.n, x.ok)
		if !x.ok {
			wantStore(t, m, x.at, x.size, 0x4847464544434241, m, false)
		}
	}
	wantStore(t, m, base, 1, 0x4847464544434241, one("Abcdefghij", 4, 2), true)
	wantStore(t, m, base, 2, 0x4847464544434241, one("ABcdefghij", 4, 2), true)
	wantStore(t, m, base+1, 4, 0x4847464544434241, one("aABCDfghij", 4, 2), true)
	wantStore(t, m, base+2, 8, 0x4847464544434241, one("abABCDEFGH", 4, 2), true)
	crossing := one("abcdefghij", 4, 4)
	copy(crossing.Ram.Data[255:], "AB")
	wantStore(t, m, base+255, 2, 0x4241, crossing, true)
	last := one("abcdefghij", 1, 4)
	last.Ram.Data[511] = 'A'
	wantStore(t, m, base+511, 1, 0xff41, last, true)
}

// P14.1: each size, at memory's addresses, at places and elsewhere.
func TestSizes(t *testing.T) {
	for _, m := range []api.Machine{{}, fresh(), busy()} {
		for _, at := range []uint64{base, base + 64, base + 255, 0xc000000, 0xc000004, 0xc200004, 0xc400000, 0x2000000, 0x2004000, 0x10000000, 0x10002010, 0, all} {
			for _, size := range sizes() {
				wantWords(t, m, at, size, 1)
			}
		}
	}
}

// P14.1: each place at each size, beside it and elsewhere, where nothing is.
func TestAddresses(t *testing.T) {
	for _, m := range []api.Machine{{}, fresh(), busy()} {
		for _, at := range someAddresses() {
			for _, size := range []int{0, 1, 2, 4, 8} {
				wantWords(t, m, at, size, 2)
			}
		}
	}
}

// P14.1: each place, of all machines, with numbers of any kind.
func TestPlaces(t *testing.T) {
	for _, m := range machines() {
		for _, x := range places() {
			for _, v := range []uint64{0, 1, 2, 3, 0x0123456789abcdef, all} {
				wantWords(t, m, x.at, x.size, v)
			}
		}
	}
	for _, x := range places() {
		for _, v := range someNumbers() {
			wantWords(t, busy(), x.at, x.size, v)
		}
	}
}

// P14.1: what reads of places tell and change, as written down by hand.
func TestKnownLoads(t *testing.T) {
	same := func(m *api.Machine) {}
	for _, x := range []struct {
		at     uint64
		size   int
		n      uint64
		change func(m *api.Machine)
	}{
		{0x2000000, 4, 1, same},
		{0x2004000, 8, 0x1122334455667788, same},
		{0x200bff8, 8, 0x0123456789abcdef, same},
		{0x10000000, 1, 0xf0, func(m *api.Machine) { m.Board.In = "bc" }},
		{0x10000001, 1, 1, same},
		{0x10000005, 1, 0x61, same},
		{0x10001000, 8, 3, same},
		{0x10001008, 8, 0x80000040, same},
		{0x10001018, 8, 3, func(m *api.Machine) { m.Board.Done = false }},
		{0x10002000, 8, 5, same},
		{0x10002008, 8, 0x80000100, same},
		{0x10002018, 8, 5, same},
		{0xc000004, 4, 1, same},
		{0xc000008, 4, 2, same},
		{0xc00000c, 4, 7, same},
		{0xc001000, 4, 10, same},
		{0xc002000, 4, 14, same},
		{0xc002080, 4, 2, same},
		{0xc200000, 4, 1, same},
		{0xc201000, 4, 2, same},
		{0xc200004, 4, 3, func(m *api.Machine) { m.Board.Plic.Claimed = 12 }},
		{0xc201004, 4, 0, same},
	} {
		wantLoad(t, busy(), x.at, x.size, with(x.change), x.n, true)
		for _, size := range []int{1, 2, 4, 8} {
			if size != x.size {
				wantLoad(t, busy(), x.at, size, busy(), 0, false)
			}
		}
	}
	for _, at := range []uint64{0x10001010, 0x10002010, 0xbffffff, 0xc000000, 0xc3fffff, 0xc3ffffc, 0xc400000, 0, 0x10002020, base - 8, base + 768, all} {
		for _, size := range []int{1, 2, 4, 8} {
			wantLoad(t, busy(), at, size, busy(), 0, false)
		}
	}
	for _, count := range []uint64{0, 1, 1 << 63, all - 1, all} {
		m := with(func(m *api.Machine) { m.Count = count })
		wantLoad(t, m, 0x200bff8, 8, m, count, true)
	}
}

// P14.1: the sources that package plic is told are those of the board: each of them, by itself, is claimed.
func TestSources(t *testing.T) {
	for source, change := range map[uint64]func(m *api.Machine){
		1: func(m *api.Machine) { m.Board.In = "a" },
		2: func(m *api.Machine) { m.Board.Done = true },
		3: func(m *api.Machine) { m.Board.Frames = []string{"f"} },
	} {
		m := fresh()
		enable(&m, 0, 14)
		enable(&m, 1, 14)
		wantLoad(t, m, 0xc001000, 4, m, 0, true)
		change(&m)
		wantLoad(t, m, 0xc001000, 4, m, 1<<source, true)
		claimed := twin(m)
		claimed.Board.Plic.Claimed = 1 << source
		wantLoad(t, m, 0xc200004, 4, claimed, source, true)
		wantLoad(t, m, 0xc201004, 4, claimed, source, true)
		wantLoad(t, claimed, 0xc201004, 4, claimed, 0, true)
		wantLines(t, m, 0xa00)
		wantLines(t, claimed, 0)
		wantStore(t, claimed, 0xc201004, 4, source, m, true)
	}
}

// P14.1: what writes of places change, as written down by hand; those that may only be read are refused.
func TestKnownStores(t *testing.T) {
	for _, x := range []struct {
		at     uint64
		size   int
		v      uint64
		change func(m *api.Machine)
	}{
		{0x2000000, 4, all - 1, func(m *api.Machine) { m.Board.Msip = false }},
		{0x2004000, 8, all - 5, func(m *api.Machine) { m.Board.Cmp = all - 5 }},
		{0x10000001, 1, 0xfe, func(m *api.Machine) { m.Board.Ier = false }},
		{0x10001000, 8, all, func(m *api.Machine) { m.Board.Sector = all }},
		{0x10001008, 8, all - 1, func(m *api.Machine) { m.Board.Addr = all - 1 }},
		{0x10001010, 8, 0, func(m *api.Machine) {}},
		{0x10001010, 8, 3, func(m *api.Machine) {}},
		{0x10002008, 8, all - 2, func(m *api.Machine) { m.Board.NicAddr = all - 2 }},
		{0x10002010, 8, 0, func(m *api.Machine) {}},
		{0x10002010, 8, 3, func(m *api.Machine) {}},
		{0x10002018, 8, all - 3, func(m *api.Machine) { m.Board.NicLen = all - 3 }},
		{0xc000004, 4, 14, func(m *api.Machine) { m.Board.Plic.Prio[1] = 6 }},
		{0xc000008, 4, 1 << 32, func(m *api.Machine) { m.Board.Plic.Prio[2] = 0 }},
		{0xc00000c, 4, 5, func(m *api.Machine) { m.Board.Plic.Prio[3] = 5 }},
		{0xc002000, 4, all - 4, func(m *api.Machine) { m.Board.Plic.Enable[0] = 10 }},
		{0xc002080, 4, all, func(m *api.Machine) { m.Board.Plic.Enable[1] = 14 }},
		{0xc200000, 4, 15, func(m *api.Machine) { m.Board.Plic.Level[0] = 7 }},
		{0xc201000, 4, 4, func(m *api.Machine) { m.Board.Plic.Level[1] = 4 }},
		{0xc200004, 4, 2, func(m *api.Machine) { m.Board.Plic.Claimed = 0 }},
		{0xc201004, 4, 2, func(m *api.Machine) {}},
	} {
		wantStore(t, busy(), x.at, x.size, x.v, with(x.change), true)
		for _, size := range []int{1, 2, 4, 8} {
			if size != x.size {
				wantStore(t, busy(), x.at, size, x.v, busy(), false)
			}
		}
	}
	for _, at := range []uint64{0x200bff8, 0x10000005, 0x10001018, 0x10002000, 0xc001000, 0xbffffff, 0xbfffffc, 0xc000000, 0xc3fffff, 0xc3ffffc,
		0xc400000, 0, 0x10002020, 0x10000002, base - 8, base + 768, all} {
		for _, size := range []int{1, 2, 4, 8} {
			wantStore(t, busy(), at, size, 1, busy(), false)
		}
	}
}

// P14.1: of package plic's addresses and one on each side of them, the ten places and no others.
func TestPlicAddresses(t *testing.T) {
	var want []uint64
	for _, x := range places() {
		if x.at >= 0xc000000 && x.at < 0xc400000 {
			want = append(want, x.at)
		}
	}
	slices.Sort(want)
	var read, written []uint64
	m := busy()
	for at := uint64(0xbffffff); at <= 0xc400000; at++ {
		if _, ok := Load(&m, at, 4); ok {
			read = append(read, at)
		}
		if Store(&m, at, 4, 1) {
			written = append(written, at)
		}
	}
	if !slices.Equal(read, want) || len(want) != 10 {
		t.Errorf("read: %x, want %x", read, want)
	}
	want = slices.DeleteFunc(want, func(at uint64) bool { return at == 0xc001000 })
	if !slices.Equal(written, want) {
		t.Errorf("written: %x, want %x", written, want)
	}
}

// P14.1: what lies at a place goes by the whole address: a memory that is as long as may be answers for its own alone.
func TestMemoryAndDevices(t *testing.T) {
	m := with(func(m *api.Machine) { m.Ram = memory(256) })
	for _, x := range places() {
		for _, at := range []uint64{base + x.at%0x10000, base + x.at>>16%0x10000} {
			if !thereBy(m.Ram, at, 8) {
				t.Fatalf("%x isn't memory's", at)
			}
			behind := twin(m)
			copy(behind.Ram.Data[at-base:], "\x02\x00\x00\x00\x00\x00\x00\x00"[:x.size])
			for leaf := (at - base) / 256; leaf <= (at-base+uint64(x.size)-1)/256; leaf++ {
				behind.Ram.Marks[leaf] = 9
			}
			wantStore(t, m, at, x.size, 2, behind, true)
			wantLoad(t, behind, at, x.size, behind, 2, true)
		}
		wantWords(t, m, x.at, x.size, 2)
	}
}

// P14.1, P14.3: the effects, as written down by hand: what goes out is a record, and what doesn't makes none.
func TestKnownEffects(t *testing.T) {
	m := busy()
	leaf := string(m.Ram.Data[64:128])
	out := func(dev int, s string) func(m *api.Machine) {
		return func(m *api.Machine) {
			m.Outs, m.Next = append(m.Outs, api.Record{Num: 7, Dev: dev, Bytes: s}), 8
		}
	}
	for _, x := range []struct {
		what   string
		at     uint64
		size   int
		v      uint64
		before func(m *api.Machine)
		change func(m *api.Machine)
	}{
		{"a byte", 0x10000000, 1, 65, func(m *api.Machine) {}, out(api.Serial, "A")},
		{"the low byte", 0x10000000, 1, all - 0xff, func(m *api.Machine) {}, out(api.Serial, "\x00")},
		{"a byte without memory", 0x10000000, 1, 0xfe, func(m *api.Machine) { m.Ram = api.Ram{} }, out(api.Serial, "\xfe")},
		{"a sector", 0x10001010, 8, 1, func(m *api.Machine) { m.Board.Done, m.Board.Bad = false, true }, func(m *api.Machine) {
			m.Board.Done, m.Board.Bad = true, false
			copy(m.Ram.Data[64:], m.Board.Sectors[192:256])
			m.Ram.Marks[0] = 9
		}},
		{"no sector", 0x10001010, 8, 1, func(m *api.Machine) { m.Board.Sector = 16 }, func(m *api.Machine) { m.Board.Bad = true }},
		{"a sector to nowhere", 0x10001010, 8, 1, func(m *api.Machine) { m.Board.Bad, m.Board.Addr = false, base+705 },
			func(m *api.Machine) { m.Board.Bad = true }},
		{"to a sector", 0x10001010, 8, 2, func(m *api.Machine) { m.Board.Done = false }, func(m *api.Machine) {
			m.Board.Done, m.Board.Bad = true, false
			m.Board.Sectors = m.Board.Sectors[:192] + leaf + m.Board.Sectors[256:]
		}},
		{"to a sector, of nothing", 0x10001010, 8, 2, func(m *api.Machine) { m.Ram = api.Ram{} }, func(m *api.Machine) { m.Board.Bad = true }},
		{"a frame in", 0x10002010, 8, 1, func(m *api.Machine) {}, func(m *api.Machine) {
			m.Board.Frames = m.Board.Frames[1:]
			copy(m.Ram.Data[256:], "first")
			m.Ram.Marks[1] = 9
		}},
		{"no frame in", 0x10002010, 8, 1, func(m *api.Machine) { m.Board.Frames = nil }, func(m *api.Machine) {}},
		{"a frame in, no room", 0x10002010, 8, 1, func(m *api.Machine) { m.Board.NicAddr = base + 764 }, func(m *api.Machine) {}},
		{"a frame out", 0x10002010, 8, 2, func(m *api.Machine) { m.Board.NicAddr = base + 64 }, out(api.Network, leaf[:5])},
		{"a long frame out", 0x10002010, 8, 2, func(m *api.Machine) { m.Board.NicAddr, m.Board.NicLen = base+64, 64 }, out(api.Network, leaf)},
		{"too long a frame", 0x10002010, 8, 2, func(m *api.Machine) { m.Board.NicLen = 65 }, func(m *api.Machine) {}},
		{"no bytes", 0x10002010, 8, 2, func(m *api.Machine) { m.Board.NicLen = 0 }, func(m *api.Machine) {}},
		{"bytes that aren't there", 0x10002010, 8, 2, func(m *api.Machine) { m.Board.NicAddr = base + 764 }, func(m *api.Machine) {}},
	} {
		before, behind := with(x.before), with(x.before)
		x.change(&behind)
		got := twin(before)
		if !Store(&got, x.at, x.size, x.v) {
			t.Errorf("%s: false", x.what)
		}
		wantMachine(t, x.what, got, behind)
	}
}

// P14.1: the chapter's example.
func TestExample(t *testing.T) {
	m := fresh()
	ok := Store(&m, 0x10000000, 1, 65)
	if !ok || !slices.Equal(m.Outs, []api.Record{{Num: 0, Dev: api.Serial, Bytes: "A"}}) || m.Next != 1 {
		t.Errorf("%v: %v, Next %d", ok, m.Outs, m.Next)
	}
}

// P14.1, P14.3: effects at all edges of memory.
func TestEffectsAtEdges(t *testing.T) {
	for _, mem := range memories() {
		for _, at := range append(edges(mem), base+uint64(len(mem.Data))-64, base+uint64(len(mem.Data))-63) {
			m := with(func(m *api.Machine) {
				m.Ram, m.Board.Addr, m.Board.NicAddr, m.Board.NicLen = mem, at, at, 1+at%64
			})
			for _, place := range []uint64{0x10001010, 0x10002010} {
				for v := range uint64(4) {
					wantWords(t, m, place, 8, v)
				}
			}
		}
	}
}

// P14.2: a Store into memory changes memory alone, and there its own bytes and its leaves' marks; Load tells what was stored.
func TestMemoryFirst(t *testing.T) {
	r := rand.New(rand.NewSource(1420))
	for _, mem := range []api.Ram{memory(1), memory(3), {Data: []byte(pattern(300, 3)), Marks: []uint64{4}, Epoch: 2}} {
		m := with(func(m *api.Machine) { m.Ram = mem })
		end := base + uint64(len(mem.Data))
		for range 1 << 12 {
			size := 1 << r.Intn(4)
			at, v := base+uint64(r.Intn(len(mem.Data))), r.Uint64()
			was := twin(m)
			ok := Store(&m, at, size, v)
			if ok != (at+uint64(size) <= end) {
				t.Fatalf("Store(%x, %d): %v", at, size, ok)
			}
			if !ok {
				wantMachine(t, fmt.Sprintf("Store(%x, %d)", at, size), m, was)
				continue
			}
			stored := twin(m)
			low := v << (64 - 8*size) >> (64 - 8*size)
			if n, may := Load(&m, at, size); n != low || !may {
				t.Fatalf("Load(%x, %d): %x, %v, stored %x", at, size, n, may, v)
			}
			wantMachine(t, "Load", m, stored)
			for i := range m.Ram.Data {
				place := base + uint64(i)
				if (place < at || place >= at+uint64(size)) && m.Ram.Data[i] != was.Ram.Data[i] {
					t.Fatalf("Store(%x, %d) changed %x", at, size, place)
				}
			}
			stored.Ram = was.Ram
			wantMachine(t, "beside memory", stored, was)
		}
	}
}

// P14.2: where memory isn't, bytes that are stored don't come into it, and a place's are not those of memory.
func TestDevicesLeaveMemory(t *testing.T) {
	for _, x := range places() {
		for _, v := range []uint64{0, 3, 65, all} {
			m := busy()
			Store(&m, x.at, x.size, v)
			Load(&m, x.at, x.size)
			if !slices.Equal(m.Ram.Data, busy().Ram.Data) || !slices.Equal(m.Ram.Marks, busy().Ram.Marks) {
				t.Errorf("Store(%x, %x) changed memory", x.at, v)
			}
		}
	}
}

// P14.3: records by hand, one behind the other, with numbers that go round behind the greatest; those ahead of them stay.
func TestKnownRecords(t *testing.T) {
	for _, next := range []uint64{0, 1, 7, 1 << 32, 1<<63 - 1, all - 2, all - 1, all} {
		m := with(func(m *api.Machine) { m.Next, m.Board.NicAddr, m.Board.NicLen = next, base, 2 })
		copy(m.Ram.Data, "frame")
		want := slices.Clone(m.Outs)
		for i, x := range []struct {
			at   uint64
			size int
			v    uint64
			dev  int
			s    string
		}{
			{0x10000000, 1, 'a', 1, "a"}, {0x10002010, 8, 2, 2, "fr"}, {0x10002010, 8, 2, 2, "fr"}, {0x10000000, 1, 'b', 1, "b"},
			{0x10000001, 1, 1, 0, ""}, {0x10000000, 1, 'b', 1, "b"}, {0x10001010, 8, 2, 0, ""}, {0x10002018, 8, 3, 0, ""},
			{base + 1, 1, 'R', 0, ""}, {0x10002010, 8, 2, 2, "fRa"}, {0x10000000, 1, 0, 1, "\x00"},
		} {
			if !Store(&m, x.at, x.size, x.v) {
				t.Fatalf("Store(%x) %d", x.at, i)
			}
			if x.dev != 0 {
				want = append(want, api.Record{Num: next + uint64(len(want)) - 2, Dev: x.dev, Bytes: x.s})
			}
			if !slices.Equal(m.Outs, want) || m.Next != next+uint64(len(want))-2 {
				t.Fatalf("from %x, behind store %d: %v, Next %x, want %v", next, i, m.Outs, m.Next, want)
			}
		}
	}
}

// chance: a machine by chance; a right one, if that is asked (but for its processor).
func chance(r *rand.Rand, right bool) api.Machine {
	m := with(func(m *api.Machine) {
		m.Ram, m.Count, m.Next = memory(1+r.Intn(3)), r.Uint64()>>r.Intn(64), r.Uint64()>>r.Intn(64)
		b := &m.Board
		b.Msip, b.Ier, b.Done, b.Bad = r.Intn(2) == 0, r.Intn(2) == 0, r.Intn(2) == 0, r.Intn(2) == 0
		b.Cmp, b.In, b.Sector = r.Uint64()>>r.Intn(64), pattern(r.Intn(4), r.Int63()), uint64(r.Intn(18))
		b.Addr, b.NicAddr, b.NicLen = base+uint64(r.Intn(800)), base+uint64(r.Intn(800)), uint64(r.Intn(67))
		b.Frames = nil
		for range r.Intn(4) {
			b.Frames = append(b.Frames, pattern(r.Intn(65), r.Int63()))
		}
		p := &b.Plic
		*p = api.Plic{Claimed: uint32(r.Intn(8)) * 2}
		for who := range 2 {
			p.Enable[who], p.Level[who] = uint32(r.Intn(8))*2, uint32(r.Intn(8))
		}
		for source := 1; source <= 3; source++ {
			p.Prio[source] = uint32(r.Intn(8))
		}
	})
	if !right && r.Intn(2) == 0 {
		m.Ram = memories()[r.Intn(len(memories()))]
		m.Board.In, m.Board.Sectors, m.Board.Frames = pattern(r.Intn(2000), 1), pattern(r.Intn(2000), 2), make([]string, r.Intn(90))
		m.Board.Plic = api.Plic{Prio: [4]uint32{r.Uint32(), 3, r.Uint32(), 1}, Enable: [2]uint32{r.Uint32(), 2}, Claimed: r.Uint32()}
	}
	return m
}

// P14.1: machines by chance, right and wrong, held against the chapters' words, call behind call.
func TestByChance(t *testing.T) {
	r := rand.New(rand.NewSource(1410))
	list := places()
	for n := range 1 << 8 {
		m := chance(r, n%2 == 0)
		want := twin(m)
		for step := range 1 << 6 {
			x, v := list[r.Intn(len(list))], r.Uint64()>>r.Intn(64)
			at, size := x.at, x.size
			switch r.Intn(8) {
			case 0:
				at, size = base+uint64(r.Intn(800)), 1<<r.Intn(4)
			case 1:
				size = r.Intn(10) - 1
			case 2, 3, 4:
				v = uint64(r.Intn(4))
			}
			if r.Intn(3) == 0 {
				got, may := Load(&m, at, size)
				n, ok := loadBy(&want, at, size)
				if got != n || may != ok {
					t.Fatalf("step %d: Load(%x, %d): %x, %v, want %x, %v", step, at, size, got, may, n, ok)
				}
			} else if may, ok := Store(&m, at, size, v), storeBy(&want, at, size, v); may != ok {
				t.Fatalf("step %d: Store(%x, %d, %x): %v, want %v", step, at, size, v, may, ok)
			}
			if s := unlike(m, want); s != "" {
				t.Fatalf("step %d, at %x, %d, %x:%s", step, at, size, v, s)
			}
			wantLines(t, m, linesBy(want))
		}
	}
}

// P14.3: whatever is done, records are numbered from Next on, none is changed, and Next goes up by their number.
func TestNumbered(t *testing.T) {
	r := rand.New(rand.NewSource(1430))
	list := places()
	out := map[int]int{}
	for range 1 << 6 {
		m := chance(r, true)
		first, had := m.Next, slices.Clone(m.Outs)
		for range 1 << 9 {
			x := list[r.Intn(len(list))]
			v := [...]uint64{uint64(r.Intn(4)), uint64(r.Intn(67)), base + uint64(r.Intn(300)), r.Uint64()}[r.Intn(4)]
			switch x.at {
			case 0x10002008:
				v = base + uint64(r.Intn(300))
			case 0x10002010, 0x10002018:
				v %= 67
			}
			before := len(m.Outs)
			if r.Intn(4) == 0 {
				Load(&m, x.at, x.size)
			} else {
				Store(&m, x.at, x.size, v)
			}
			if len(m.Outs) > before+1 || len(m.Outs) < before || m.Next != first+uint64(len(m.Outs)-len(had)) {
				t.Fatalf("at %x: %d records, and then %d, Next %x", x.at, before, len(m.Outs), m.Next)
			}
			if len(m.Outs) == before {
				continue
			}
			record := m.Outs[before]
			want := api.Record{Num: m.Next - 1, Dev: api.Serial, Bytes: string([]byte{byte(v)})}
			if x.at != 0x10000000 {
				want.Dev, want.Bytes = api.Network, textBy(m.Ram, m.Board.NicAddr, int(m.Board.NicLen))
			}
			if record != want {
				t.Fatalf("at %x: %v, want %v", x.at, record, want)
			}
			out[record.Dev]++
			had, first = append(had, record), first+1
			if !slices.Equal(m.Outs, had) {
				t.Fatalf("at %x: a record changed", x.at)
			}
		}
	}
	if out[api.Serial] < 500 || out[api.Network] < 20 {
		t.Errorf("records: %v", out)
	}
}

// P14.1: of right memory, board and Plic each call leaves right ones.
func TestRightStaysRight(t *testing.T) {
	r := rand.New(rand.NewSource(1411))
	list := places()
	for range 1 << 7 {
		m := chance(r, true)
		for range 1 << 8 {
			x := list[r.Intn(len(list))]
			if r.Intn(3) == 0 {
				Load(&m, x.at, x.size)
			} else {
				Store(&m, x.at, x.size, r.Uint64()>>r.Intn(64))
			}
			if !dev.Right(m.Board) || !plic.Right(m.Board.Plic) || ram.Check(m.Ram) != api.OK || m.Hart != busy().Hart {
				t.Fatalf("at %x: %+v", x.at, m)
			}
		}
	}
}

// roomy: a machine whose lists have spare room.
func roomy() api.Machine {
	m := busy()
	m.Board.Frames = append(append(make([]string, 0, 9), m.Board.Frames...), "s", "p", "a", "r", "e", "!")[:3]
	m.Ram.Data = append(append(make([]byte, 0, 1000), m.Ram.Data...), strings.Repeat("s", 232)...)[:768]
	m.Ram.Marks = append(append(make([]uint64, 0, 6), m.Ram.Marks...), 91, 92, 93)[:3]
	spare := api.Record{Num: 99, Dev: 99, Bytes: "spare"}
	m.Outs = append(append(make([]api.Record, 0, 5), m.Outs...), spare, spare, spare)[:2]
	return m
}

// whole: the machine with its lists' spare room.
func whole(m api.Machine) api.Machine {
	m.Board.Frames, m.Outs = m.Board.Frames[:cap(m.Board.Frames)], m.Outs[:cap(m.Outs)]
	m.Ram.Data, m.Ram.Marks = m.Ram.Data[:cap(m.Ram.Data)], m.Ram.Marks[:cap(m.Ram.Marks)]
	return m
}

// scribble: other things in all lists, in the spare room too.
func scribble(m api.Machine) {
	m = whole(m)
	for i := range m.Board.Frames {
		m.Board.Frames[i] += "!"
	}
	for i := range m.Outs {
		m.Outs[i].Num, m.Outs[i].Bytes = m.Outs[i].Num+1, "!"
	}
	for i := range m.Ram.Data {
		m.Ram.Data[i] ^= 0xff
	}
	for i := range m.Ram.Marks {
		m.Ram.Marks[i] ^= 0xff
	}
}

// P1 (new memory): what Copy makes shares nothing with what it was made of, neither way.
func TestCopySharesNothing(t *testing.T) {
	m := roomy()
	got := Copy(m)
	scribble(got)
	wantMachine(t, "behind a change of the copy", whole(m), whole(roomy()))
	m = roomy()
	got = Copy(m)
	scribble(m)
	wantMachine(t, "the copy behind a change", got, busy())
	empty := roomy()
	empty.Board.Frames, empty.Outs, empty.Ram.Data, empty.Ram.Marks = empty.Board.Frames[:0], empty.Outs[:0], empty.Ram.Data[:0], empty.Ram.Marks[:0]
	got = Copy(empty)
	scribble(got)
	wantMachine(t, "lists of nothing", whole(empty), whole(roomy()))
}

// P1 (new memory): what Copy makes goes on apart: calls on the one change nothing of the other.
func TestCopyGoesOnApart(t *testing.T) {
	r := rand.New(rand.NewSource(1403))
	list := places()
	for range 1 << 6 {
		m := chance(r, true)
		other := Copy(m)
		kept := twin(m)
		for range 1 << 5 {
			x := list[r.Intn(len(list))]
			Load(&m, x.at, x.size)
			Store(&m, x.at, x.size, uint64(r.Intn(4)))
			Store(&m, base+uint64(r.Intn(700)), 1<<r.Intn(4), r.Uint64())
			Lines(m)
		}
		wantMachine(t, "the copy", other, kept)
	}
}

// P1 (nothing handed in is changed): the spare room of a machine's lists stays as it is, whatever is read or written.
func TestSpareRoom(t *testing.T) {
	for _, x := range places() {
		for _, v := range []uint64{0, 1, 2, 65} {
			m := roomy()
			was := m
			Load(&m, x.at, x.size)
			Store(&m, x.at, x.size, v)
			Store(&m, x.at, x.size, v)
			Lines(m)
			was = whole(was)
			want := whole(roomy())
			if !slices.Equal(was.Outs, want.Outs) || !slices.Equal(was.Board.Frames, want.Board.Frames) {
				t.Errorf("at %x, %d: Outs %v, Frames %q", x.at, v, was.Outs, was.Board.Frames)
			}
			if string(was.Ram.Data[768:]) != string(want.Ram.Data[768:]) || !slices.Equal(was.Ram.Marks[3:], want.Ram.Marks[3:]) {
				t.Errorf("at %x, %d: memory's spare room changed", x.at, v)
			}
		}
	}
	m := roomy()
	was := m
	for at := base; at < base+800; at++ {
		Store(&m, at, 8, all)
	}
	if spare := whole(was); string(spare.Ram.Data[768:]) != strings.Repeat("s", 232) || !slices.Equal(spare.Ram.Marks[3:], []uint64{91, 92, 93}) {
		t.Error("a store changed memory's spare room")
	}
}

// P1: no machine at all: false, at all addresses.
func TestNoMachine(t *testing.T) {
	for _, at := range append(someAddresses(), base, base+1) {
		for _, size := range sizes() {
			if n, ok := Load(nil, at, size); n != 0 || ok {
				t.Errorf("Load(nil, %x, %d): %x, %v", at, size, n, ok)
			}
			if Store(nil, at, size, 1) {
				t.Errorf("Store(nil, %x, %d)", at, size)
			}
		}
	}
}

// P1: all arguments of any kind.
func TestAnything(t *testing.T) {
	r := rand.New(rand.NewSource(1401))
	list := places()
	for range 1 << 11 {
		m := chance(r, false)
		m.Board.Sector, m.Board.Addr, m.Board.NicAddr = r.Uint64()>>r.Intn(64), r.Uint64()>>r.Intn(64), r.Uint64()>>r.Intn(64)
		at, size, v := r.Uint64()>>r.Intn(64), int(r.Uint64()>>r.Intn(64)), r.Uint64()>>r.Intn(64)
		if r.Intn(2) == 0 {
			size = -size
		}
		wantWords(t, m, at, size, v)
		wantWords(t, m, at, 1<<r.Intn(4), v)
		wantWords(t, m, list[r.Intn(len(list))].at, sizes()[r.Intn(len(sizes()))], v)
	}
}

// P1: the same calls answer the same, in the other order too.
func TestAsksNothingElse(t *testing.T) {
	r := rand.New(rand.NewSource(1402))
	list := places()
	var calls []func() string
	for range 1 << 9 {
		m, x, v := chance(r, r.Intn(2) == 0), list[r.Intn(len(list))], uint64(r.Intn(4))
		calls = append(calls, func() string {
			a, b := twin(m), twin(m)
			n, ok := Load(&a, x.at, x.size)
			may := Store(&b, x.at, x.size, v)
			return fmt.Sprint(a, n, ok, b, may, Lines(m), Copy(m))
		})
	}
	var answers []string
	for _, call := range calls {
		answers = append(answers, call())
	}
	for i := len(calls) - 1; i >= 0; i-- {
		if calls[i]() != answers[i] {
			t.Errorf("call %d: another answer", i)
		}
	}
}
