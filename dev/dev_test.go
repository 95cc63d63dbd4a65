package dev

import (
	"fmt"
	"math"
	"math/rand"
	"reflect"
	"slices"
	"strings"
	"testing"

	"tandem/api"
	"tandem/ram"
)

const (
	all  = uint64(1<<64 - 1)
	base = uint64(0x80000000)
)

// A place as the chapter's table has it; what it hasn't, it may not.
type place struct {
	at    uint64
	size  int
	read  func(b *api.Board, count uint64) uint64
	write func(b *api.Board, v uint64) api.Effect
}

// number: 1 for what is so.
func number(so bool) uint64 {
	if so {
		return 1
	}
	return 0
}

// places: the chapter's table.
func places() []place {
	type board = api.Board
	return []place{
		{0x2000000, 4, func(b *board, _ uint64) uint64 { return number(b.Msip) },
			func(b *board, v uint64) (e api.Effect) { b.Msip = v%2 != 0; return }},
		{0x2004000, 8, func(b *board, _ uint64) uint64 { return b.Cmp },
			func(b *board, v uint64) (e api.Effect) { b.Cmp = v; return }},
		{0x200bff8, 8, func(b *board, count uint64) uint64 { return count }, nil},
		{0x10000000, 1, firstByte, func(b *board, v uint64) api.Effect {
			return api.Effect{Kind: 1, Bytes: string([]byte{byte(v % 256)})}
		}},
		{0x10000001, 1, func(b *board, _ uint64) uint64 { return number(b.Ier) },
			func(b *board, v uint64) (e api.Effect) { b.Ier = v%2 != 0; return }},
		{0x10000005, 1, func(b *board, _ uint64) uint64 { return 32 + 64 + number(len(b.In) != 0) }, nil},
		{0x10001000, 8, func(b *board, _ uint64) uint64 { return b.Sector },
			func(b *board, v uint64) (e api.Effect) { b.Sector = v; return }},
		{0x10001008, 8, func(b *board, _ uint64) uint64 { return b.Addr },
			func(b *board, v uint64) (e api.Effect) { b.Addr = v; return }},
		{0x10001010, 8, nil, func(b *board, v uint64) api.Effect {
			return api.Effect{Kind: map[uint64]int{1: 2, 2: 3}[v]}
		}},
		{0x10001018, 8, func(b *board, _ uint64) uint64 {
			n := number(b.Done) + 2*number(b.Bad)
			b.Done = false
			return n
		}, nil},
		{0x10002000, 8, func(b *board, _ uint64) uint64 { return uint64(len(append(b.Frames, "")[0])) }, nil},
		{0x10002008, 8, func(b *board, _ uint64) uint64 { return b.NicAddr },
			func(b *board, v uint64) (e api.Effect) { b.NicAddr = v; return }},
		{0x10002010, 8, nil, func(b *board, v uint64) api.Effect {
			return api.Effect{Kind: map[uint64]int{1: 4, 2: 5}[v]}
		}},
		{0x10002018, 8, func(b *board, _ uint64) uint64 { return b.NicLen },
			func(b *board, v uint64) (e api.Effect) { b.NicLen = v; return }},
	}
}

// firstByte: what a read of the serial line tells.
func firstByte(b *api.Board, _ uint64) uint64 {
	bytes := append([]byte(b.In), 0)
	b.In = string(bytes[1:max(1, len(b.In))])
	return uint64(bytes[0])
}

// loadBy: Load, as the chapter's table tells it.
func loadBy(b api.Board, at uint64, size int, count uint64) (api.Board, uint64, bool) {
	for _, p := range places() {
		if p.at == at && p.size == size && p.read != nil {
			b = twin(b)
			n := p.read(&b, count)
			return b, n, true
		}
	}
	return api.Board{}, 0, false
}

// storeBy: Store, likewise.
func storeBy(b api.Board, at uint64, size int, v uint64) (api.Board, api.Effect, bool) {
	for _, p := range places() {
		if p.at == at && p.size == size && p.write != nil {
			b = twin(b)
			e := p.write(&b, v)
			return b, e, true
		}
	}
	return api.Board{}, api.Effect{}, false
}

// thereBy: are so many bytes there? Address by address: a sum that goes round is below the base.
func thereBy(m api.Ram, at uint64, size int) bool {
	for i := range size {
		a := at + uint64(i)
		if a < base || a-base >= uint64(len(m.Data)) {
			return false
		}
	}
	return true
}

// writtenBy: the memory with the bytes, which are there.
func writtenBy(m api.Ram, at uint64, s string) api.Ram {
	m = twinRam(m)
	for i := range len(s) {
		n := int(at + uint64(i) - base)
		m.Data[n] = s[i]
		if n/256 < len(m.Marks) {
			m.Marks[n/256] = m.Epoch
		}
	}
	return m
}

// textBy: the bytes, which are there.
func textBy(m api.Ram, at uint64, size int) (s string) {
	for i := range size {
		s += string(m.Data[at+uint64(i)-base:][:1])
	}
	return s
}

// actBy: Act, as the chapter's words tell it.
func actBy(b api.Board, m api.Ram, e api.Effect) (api.Board, api.Ram, string, bool) {
	b, m = twin(b), twinRam(m)
	whole, chosen := len(b.Sectors) == 1024, slices.Contains([]uint64{0, 1, 2, 3, 4, 5, 6, 7, 8, 9, 10, 11, 12, 13, 14, 15}, b.Sector)
	switch e.Kind {
	case 1:
		return b, m, e.Bytes, true
	case 2:
		b.Done, b.Bad = true, !chosen || whole && !thereBy(m, b.Addr, 64)
		if !b.Bad && whole {
			m = writtenBy(m, b.Addr, b.Sectors[64*b.Sector:][:64])
		}
	case 3:
		b.Done, b.Bad = true, !chosen || !thereBy(m, b.Addr, 64)
		if !b.Bad && whole {
			bytes := []byte(b.Sectors)
			copy(bytes[64*b.Sector:], textBy(m, b.Addr, 64))
			b.Sectors = string(bytes)
		}
	case 4:
		if len(b.Frames) != 0 && thereBy(m, b.NicAddr, len(b.Frames[0])) {
			m = writtenBy(m, b.NicAddr, b.Frames[0])
			b.Frames = slices.Delete(b.Frames, 0, 1)
		}
	case 5:
		for n := 1; n <= 64; n++ {
			if b.NicLen == uint64(n) && thereBy(m, b.NicAddr, n) {
				return b, m, textBy(m, b.NicAddr, n), true
			}
		}
	}
	return b, m, "", false
}

// rightBy: Right, as the chapter's words tell it.
func rightBy(b api.Board) bool {
	return len(b.Sectors) == 1024 && len(b.In) < 1025 && len(b.Frames) < 65 &&
		!slices.ContainsFunc(b.Frames, func(s string) bool { return len(s) > 64 })
}

// giveBy: Give, likewise.
func giveBy(b api.Board, dev int, data string) (api.Board, bool) {
	b = twin(b)
	more := twin(b)
	if dev == 1 {
		more.In = b.In + data
		if len(more.In) <= 1024 {
			return more, true
		}
	}
	if dev == 2 && 1 <= len(data) && len(data) <= 64 && len(b.Frames) < 64 {
		more.Frames = slices.Insert(more.Frames, len(b.Frames), data)
		return more, true
	}
	return b, false
}

// twin and twinRam: the same, made apart from the program.
func twin(b api.Board) api.Board {
	b.Frames = slices.Clone(b.Frames)
	return b
}

func twinRam(m api.Ram) api.Ram {
	return api.Ram{Data: slices.Clone(m.Data), Marks: slices.Clone(m.Marks), Epoch: m.Epoch}
}

// same and sameRam: a list that holds nothing may be nil or empty.
func same(a, b api.Board) bool {
	frames := slices.Equal(a.Frames, b.Frames)
	a.Frames, b.Frames = nil, nil
	return frames && reflect.DeepEqual(a, b)
}

func sameRam(a, b api.Ram) bool {
	return slices.Equal(a.Data, b.Data) && slices.Equal(a.Marks, b.Marks) && a.Epoch == b.Epoch
}

// told: a board in short.
func told(b api.Board) string {
	sectors := 0
	for i, c := range []byte(b.Sectors) {
		sectors += i * int(c)
	}
	size := len(b.Sectors)
	b.Sectors = ""
	return fmt.Sprintf("%.400q (Sectors %d bytes, sum %d)", fmt.Sprintf("%+v", b), size, sectors)
}

func wantBoard(t *testing.T, what string, got, want api.Board) {
	t.Helper()
	if !same(got, want) {
		t.Errorf("%s: board %s,\n\twant %s", what, told(got), told(want))
	}
}

func wantRam(t *testing.T, what string, got, want api.Ram) {
	t.Helper()
	if !sameRam(got, want) {
		t.Errorf("%s: memory of %d bytes, marks %.60v, epoch %d, want %d bytes, marks %.60v, epoch %d",
			what, len(got.Data), got.Marks, got.Epoch, len(want.Data), want.Marks, want.Epoch)
	}
}

// wantLoad: Load answers so, and leaves the board that it is given.
func wantLoad(t *testing.T, b api.Board, at uint64, size int, count uint64, board api.Board, n uint64, ok bool) {
	t.Helper()
	before := twin(b)
	got, told, may := Load(b, at, size, count)
	what := fmt.Sprintf("Load(%x, %d)", at, size)
	if told != n || may != ok {
		t.Errorf("%s: %x, %v, want %x, %v", what, told, may, n, ok)
	}
	wantBoard(t, what, got, board)
	wantBoard(t, what+": what it was given", b, before)
}

// wantStore: Store answers so, likewise.
func wantStore(t *testing.T, b api.Board, at uint64, size int, v uint64, board api.Board, e api.Effect, ok bool) {
	t.Helper()
	before := twin(b)
	got, effect, may := Store(b, at, size, v)
	what := fmt.Sprintf("Store(%x, %d, %x)", at, size, v)
	if effect != e || may != ok {
		t.Errorf("%s: %d %q, %v, want %d %q, %v", what, effect.Kind, effect.Bytes, may, e.Kind, e.Bytes, ok)
	}
	wantBoard(t, what, got, board)
	wantBoard(t, what+": what it was given", b, before)
}

// wantAct: Act answers so, likewise.
func wantAct(t *testing.T, b api.Board, m api.Ram, e api.Effect, board api.Board, mem api.Ram, out string, ok bool) {
	t.Helper()
	before, memBefore := twin(b), twinRam(m)
	got, gotMem, s, goes := Act(b, m, e)
	what := fmt.Sprintf("Act of %d (sector %x, addr %x, nic %x, %x)", e.Kind, b.Sector, b.Addr, b.NicAddr, b.NicLen)
	if s != out || goes != ok {
		t.Errorf("%s: %q, %v, want %q, %v", what, s, goes, out, ok)
	}
	wantBoard(t, what, got, board)
	wantRam(t, what, gotMem, mem)
	wantBoard(t, what+": what it was given", b, before)
	wantRam(t, what+": what it was given", m, memBefore)
}

// wantActWords: Act answers as the chapter's words tell it.
func wantActWords(t *testing.T, b api.Board, m api.Ram, e api.Effect) {
	t.Helper()
	board, mem, s, ok := actBy(b, m, e)
	wantAct(t, b, m, e, board, mem, s, ok)
}

// wantGive: Give answers so, likewise.
func wantGive(t *testing.T, b api.Board, dev int, data string, board api.Board, ok bool) {
	t.Helper()
	before := twin(b)
	got, may := Give(b, dev, data)
	what := fmt.Sprintf("Give(%d, %d bytes) with %d bytes and %d frames", dev, len(data), len(b.In), len(b.Frames))
	if may != ok {
		t.Errorf("%s: %v, want %v", what, may, ok)
	}
	wantBoard(t, what, got, board)
	wantBoard(t, what+": what it was given", b, before)
}

// pattern: so many bytes by chance, the same ones each time.
func pattern(n int, seed int64) string {
	b := make([]byte, n)
	rand.New(rand.NewSource(seed)).Read(b)
	return string(b)
}

// frames: so many frames, each of so many bytes.
func frames(n, size int) (list []string) {
	s := pattern(n*size, 6)
	for i := range n {
		list = append(list, s[i*size:(i+1)*size])
	}
	return list
}

// busy: a right board, of which no field is nothing.
func busy() api.Board {
	return api.Board{
		Msip: true, Cmp: 0x1122334455667788, In: "\xf0bc", Ier: true,
		Sectors: pattern(1024, 12), Sector: 3, Addr: base + 0x40, Done: true, Bad: true,
		Frames: []string{"first", "second one", "3"}, NicAddr: base + 0x100, NicLen: 5,
		Plic: api.Plic{Prio: [4]uint32{0, 1, 2, 7}, Enable: [2]uint32{14, 2}, Level: [2]uint32{1, 2}, Claimed: 4},
	}
}

// with: a busy board with one thing changed.
func with(change func(b *api.Board)) api.Board {
	b := busy()
	change(&b)
	return b
}

// someNumbers: those that tell places, sectors and lengths apart, and such as make sums and products go round.
func someNumbers() []uint64 {
	return []uint64{0, 1, 2, 3, 4, 14, 15, 16, 17, 63, 64, 65, 255, 256, 257, 1 << 26, 1<<26 + 1, 1 << 31, 1 << 32, 1<<32 + 1,
		1<<32 + 2, 1<<32 + 64, 1 << 58, 1<<58 + 1, 1<<60 + 15, 1 << 63, 1<<63 + 1, 1<<63 + 64, all - 63, all - 1, all}
}

// boards: right ones and wrong ones.
func boards() []api.Board {
	list := []api.Board{{}, New(), busy(), {Frames: []string{""}}, {Frames: []string{}}}
	for n := range 16 {
		list = append(list, with(func(b *api.Board) {
			b.Msip, b.Ier, b.Done, b.Bad = n&1 != 0, n&2 != 0, n&4 != 0, n&8 != 0
		}))
	}
	for _, size := range []int{0, 1, 2, 63, 64, 65, 1023, 1024, 1025, 1088, 3000} {
		list = append(list, with(func(b *api.Board) { b.In = pattern(size, 3) }), with(func(b *api.Board) { b.Sectors = pattern(size, 4) }),
			with(func(b *api.Board) { b.In, b.Ier = strings.Repeat("\x00", size), false }))
	}
	for _, n := range []int{0, 1, 2, 63, 64, 65, 200} {
		for _, size := range []int{0, 1, 64, 65, 300} {
			list = append(list, with(func(b *api.Board) { b.Frames = frames(n, size) }))
		}
	}
	for _, n := range someNumbers() {
		list = append(list, with(func(b *api.Board) { b.Sector, b.NicLen, b.Cmp = n, n, n }),
			with(func(b *api.Board) { b.Addr, b.NicAddr = n, n }))
	}
	return list
}

// memory: of so many leaves, with bytes by chance and some marks.
func memory(leaves int) api.Ram {
	m := api.Ram{Data: []byte(pattern(leaves*256, 5)), Marks: make([]uint64, leaves), Epoch: 9}
	for i := range m.Marks {
		m.Marks[i] = uint64(i % 7)
	}
	return m
}

// memories: such as may be, and such as may not.
func memories() []api.Ram {
	three := memory(3)
	return []api.Ram{
		{}, {Epoch: 3}, {Data: []byte("few")}, {Marks: make([]uint64, 2)}, memory(1), three, memory(5),
		{Data: three.Data, Epoch: 2}, {Data: three.Data[:64], Marks: []uint64{7}}, {Data: three.Data[:63], Marks: []uint64{0}},
		{Data: three.Data[:300], Marks: []uint64{all}, Epoch: 1}, {Data: three.Data, Marks: make([]uint64, 9), Epoch: all},
	}
}

// edges: the addresses at which n bytes lie first and last in a memory, those beside them, and outside it.
func edges(m api.Ram, n int) []uint64 {
	end := base + uint64(len(m.Data))
	list := []uint64{0, 1, 0x40, base >> 1, base - 64, 1 << 63, base + 1<<32, base + 1<<63, all - 63, all - 62, all}
	for d := range uint64(3) {
		list = append(list, base+d, base-d, base+255+d, base+200+d, end+d, end-d, end-uint64(n)+d, end-uint64(n)-d, -uint64(n)+d, -uint64(n)-d)
	}
	return list
}

// P12.1: New: Cmp 2^64 - 1, 1024 noughts, all else nothing.
func TestNew(t *testing.T) {
	wantBoard(t, "New", New(), api.Board{Cmp: math.MaxUint64, Sectors: strings.Repeat("\x00", 1024)})
	if !Right(New()) {
		t.Error("New isn't right")
	}
}

// P12.1: Right: each limit, just at it and one beyond.
func TestRight(t *testing.T) {
	for _, x := range []struct {
		what   string
		change func(b *api.Board)
		right  bool
	}{
		{"as it is", func(b *api.Board) {}, true},
		{"no sectors", func(b *api.Board) { b.Sectors = "" }, false},
		{"one sector", func(b *api.Board) { b.Sectors = pattern(64, 1) }, false},
		{"a byte fewer", func(b *api.Board) { b.Sectors = b.Sectors[1:] }, false},
		{"a byte more", func(b *api.Board) { b.Sectors += "x" }, false},
		{"no In", func(b *api.Board) { b.In = "" }, true},
		{"In of 1023", func(b *api.Board) { b.In = pattern(1023, 1) }, true},
		{"In of 1024", func(b *api.Board) { b.In = pattern(1024, 1) }, true},
		{"In of 1025", func(b *api.Board) { b.In = pattern(1025, 1) }, false},
		{"no frames", func(b *api.Board) { b.Frames = nil }, true},
		{"frames of 0 bytes", func(b *api.Board) { b.Frames = frames(64, 0) }, true},
		{"63 frames", func(b *api.Board) { b.Frames = frames(63, 64) }, true},
		{"64 frames", func(b *api.Board) { b.Frames = frames(64, 64) }, true},
		{"65 frames", func(b *api.Board) { b.Frames = frames(65, 1) }, false},
		{"65 frames of 0 bytes", func(b *api.Board) { b.Frames = frames(65, 0) }, false},
		{"the first of 65 bytes", func(b *api.Board) { b.Frames[0] = pattern(65, 1) }, false},
		{"the last of 65 bytes", func(b *api.Board) { b.Frames[2] = pattern(65, 1) }, false},
		{"the last of 64 bytes", func(b *api.Board) { b.Frames[2] = pattern(64, 1) }, true},
		{"Sector", func(b *api.Board) { b.Sector = all }, true},
		{"NicLen", func(b *api.Board) { b.NicLen = all }, true},
		{"addresses", func(b *api.Board) { b.Addr, b.NicAddr = 0, 0 }, true},
		{"a wrong Plic", func(b *api.Board) { b.Plic.Claimed, b.Plic.Prio[0] = 1, 9 }, true},
	} {
		b := with(x.change)
		if Right(b) != x.right || rightBy(b) != x.right {
			t.Errorf("%s: %v, want %v", x.what, Right(b), x.right)
		}
	}
	for _, b := range boards() {
		if Right(b) != rightBy(b) {
			t.Errorf("Right: %v, of %s", Right(b), told(b))
		}
	}
}

// P12.1: Copy: the same, whatever it is.
func TestCopy(t *testing.T) {
	for _, b := range boards() {
		before := twin(b)
		wantBoard(t, "Copy", Copy(b), before)
		wantBoard(t, "what Copy was given", b, before)
	}
}

// sizes: those of places, those beside them, and others.
func sizes() []int {
	return []int{math.MinInt, -8, -4, -1, 0, 1, 2, 3, 4, 5, 6, 7, 8, 9, 16, 32, 64, 1<<32 + 1, 1<<32 + 4, 1<<32 + 8, math.MaxInt}
}

// someAddresses: all that lie around the places, and some far from them.
func someAddresses() (list []uint64) {
	for _, p := range places() {
		for d := range uint64(12) {
			list = append(list, p.at+d, p.at-d)
		}
		list = append(list, p.at+1<<32, p.at+1<<63, p.at^1<<31, p.at>>1, p.at<<1)
	}
	for at := range uint64(0x40) {
		list = append(list, 0x2000000+at, 0x2004000+at, 0x200bfe0+at, 0x10000000+at, 0x10001000+at, 0x10002000+at)
	}
	return append(list, 0, 1, 8, 0xc000000, 0xc000004, 0xc201004, base, base+1, all-7, all)
}

// P12.1: Load: each place at each size, one byte beside it and elsewhere, held against the table.
func TestLoad(t *testing.T) {
	for _, b := range []api.Board{{}, New(), busy()} {
		for _, at := range someAddresses() {
			for _, size := range sizes() {
				board, n, ok := loadBy(b, at, size, 77)
				wantLoad(t, b, at, size, 77, board, n, ok)
			}
		}
	}
	for _, b := range boards() {
		for _, p := range places() {
			for _, size := range []int{1, 4, 8} {
				for _, count := range []uint64{0, 0x0123456789abcdef, all} {
					board, n, ok := loadBy(b, p.at, size, count)
					wantLoad(t, b, p.at, size, count, board, n, ok)
				}
			}
		}
	}
}

// P12.1: what reads tell, as written down by hand; all else is as it was.
func TestKnownLoads(t *testing.T) {
	for _, x := range []struct {
		at   uint64
		size int
		n    uint64
		ok   bool
	}{
		{0x2000000, 4, 1, true},
		{0x2004000, 8, 0x1122334455667788, true},
		{0x200bff8, 8, 0x99aabbccddeeff01, true},
		{0x10000001, 1, 1, true},
		{0x10000005, 1, 0x61, true},
		{0x10001000, 8, 3, true},
		{0x10001008, 8, 0x80000040, true},
		{0x10001010, 8, 0, false},
		{0x10002000, 8, 5, true},
		{0x10002008, 8, 0x80000100, true},
		{0x10002010, 8, 0, false},
		{0x10002018, 8, 5, true},
		{0x10000000, 4, 0, false},
		{0x2000000, 8, 0, false},
		{0x2000000, 1, 0, false},
		{0x2004000, 4, 0, false},
		{0x2004004, 4, 0, false},
		{0x10000002, 1, 0, false},
		{0x10000006, 1, 0, false},
		{0x10002020, 8, 0, false},
	} {
		board := api.Board{}
		if x.ok {
			board = busy()
		}
		wantLoad(t, busy(), x.at, x.size, 0x99aabbccddeeff01, board, x.n, x.ok)
	}
}

// P12.1: a read of the serial line with In empty, with one byte and with more, and its status.
func TestSerialReads(t *testing.T) {
	for _, x := range []struct {
		in     string
		n      uint64
		rest   string
		status uint64
	}{
		{"", 0, "", 0x60},
		{"A", 0x41, "", 0x61},
		{"\x00", 0, "", 0x61},
		{"\xff", 0xff, "", 0x61},
		{"\x80\x00", 0x80, "\x00", 0x61},
		{"AB", 0x41, "B", 0x61},
		{"\xc3\xa4b", 0xc3, "\xa4b", 0x61},
		{strings.Repeat("z", 1024), 0x7a, strings.Repeat("z", 1023), 0x61},
		{strings.Repeat("z", 1026), 0x7a, strings.Repeat("z", 1025), 0x61},
	} {
		b := with(func(b *api.Board) { b.In = x.in })
		wantLoad(t, b, 0x10000000, 1, 5, with(func(b *api.Board) { b.In = x.rest }), x.n, true)
		wantLoad(t, b, 0x10000005, 1, 5, b, x.status, true)
		b.Ier = false
		wantLoad(t, b, 0x10000005, 1, 5, b, x.status, true)
	}
}

// P12.1: a read of the disk's status makes Done false, and leaves Bad.
func TestDone(t *testing.T) {
	for n := range uint64(4) {
		b := with(func(b *api.Board) { b.Done, b.Bad = n%2 == 1, n/2 == 1 })
		behind := with(func(b *api.Board) { b.Done, b.Bad = false, n/2 == 1 })
		wantLoad(t, b, 0x10001018, 8, 0, behind, n, true)
		wantLoad(t, behind, 0x10001018, 8, 0, behind, n&2, true)
		wantLoad(t, b, 0x10001018, 4, 0, api.Board{}, 0, false)
		wantLoad(t, b, 0x10001018, 1, 0, api.Board{}, 0, false)
	}
}

// P12.1: Store: each place at each size, one byte beside it and elsewhere, held against the table.
func TestStore(t *testing.T) {
	for _, b := range []api.Board{{}, New(), busy()} {
		for _, at := range someAddresses() {
			for _, size := range sizes() {
				for _, v := range []uint64{0, 1, 2} {
					board, e, ok := storeBy(b, at, size, v)
					wantStore(t, b, at, size, v, board, e, ok)
				}
			}
		}
	}
	for _, b := range boards() {
		for _, p := range places() {
			for _, v := range append(someNumbers(), 0x0123456789abcdef, 0xfedcba9876543210) {
				board, e, ok := storeBy(b, p.at, p.size, v)
				wantStore(t, b, p.at, p.size, v, board, e, ok)
			}
		}
	}
}

// P12.1: what writes change, as written down by hand; all else is as it was.
func TestKnownStores(t *testing.T) {
	for _, x := range []struct {
		at     uint64
		size   int
		v      uint64
		change func(b *api.Board)
		e      api.Effect
	}{
		{0x2000000, 4, 0, func(b *api.Board) { b.Msip = false }, api.Effect{}},
		{0x2000000, 4, 1, func(b *api.Board) { b.Msip = true }, api.Effect{}},
		{0x2000000, 4, all - 1, func(b *api.Board) { b.Msip = false }, api.Effect{}},
		{0x2000000, 4, all, func(b *api.Board) { b.Msip = true }, api.Effect{}},
		{0x2004000, 8, all - 5, func(b *api.Board) { b.Cmp = all - 5 }, api.Effect{}},
		{0x10000000, 1, 65, func(b *api.Board) {}, api.Effect{Kind: api.Out, Bytes: "A"}},
		{0x10000000, 1, 0, func(b *api.Board) {}, api.Effect{Kind: api.Out, Bytes: "\x00"}},
		{0x10000000, 1, 0x1fe, func(b *api.Board) {}, api.Effect{Kind: api.Out, Bytes: "\xfe"}},
		{0x10000000, 1, all - 0xff, func(b *api.Board) {}, api.Effect{Kind: api.Out, Bytes: "\x00"}},
		{0x10000001, 1, 0, func(b *api.Board) { b.Ier = false }, api.Effect{}},
		{0x10000001, 1, 0xfe, func(b *api.Board) { b.Ier = false }, api.Effect{}},
		{0x10000001, 1, 3, func(b *api.Board) { b.Ier = true }, api.Effect{}},
		{0x10001000, 8, all, func(b *api.Board) { b.Sector = all }, api.Effect{}},
		{0x10001000, 8, 15, func(b *api.Board) { b.Sector = 15 }, api.Effect{}},
		{0x10001008, 8, all - 1, func(b *api.Board) { b.Addr = all - 1 }, api.Effect{}},
		{0x10001010, 8, 0, func(b *api.Board) {}, api.Effect{}},
		{0x10001010, 8, 1, func(b *api.Board) {}, api.Effect{Kind: api.ReadDisk}},
		{0x10001010, 8, 2, func(b *api.Board) {}, api.Effect{Kind: api.WriteDisk}},
		{0x10001010, 8, 3, func(b *api.Board) {}, api.Effect{}},
		{0x10001010, 8, 4, func(b *api.Board) {}, api.Effect{}},
		{0x10001010, 8, 1<<32 + 1, func(b *api.Board) {}, api.Effect{}},
		{0x10001010, 8, 1<<63 + 2, func(b *api.Board) {}, api.Effect{}},
		{0x10002008, 8, all - 2, func(b *api.Board) { b.NicAddr = all - 2 }, api.Effect{}},
		{0x10002010, 8, 0, func(b *api.Board) {}, api.Effect{}},
		{0x10002010, 8, 1, func(b *api.Board) {}, api.Effect{Kind: api.Receive}},
		{0x10002010, 8, 2, func(b *api.Board) {}, api.Effect{Kind: api.Transmit}},
		{0x10002010, 8, 3, func(b *api.Board) {}, api.Effect{}},
		{0x10002010, 8, 5, func(b *api.Board) {}, api.Effect{}},
		{0x10002010, 8, 256 + 1, func(b *api.Board) {}, api.Effect{}},
		{0x10002018, 8, all - 3, func(b *api.Board) { b.NicLen = all - 3 }, api.Effect{}},
	} {
		wantStore(t, busy(), x.at, x.size, x.v, with(x.change), x.e, true)
		for _, size := range []int{1, 2, 4, 8} {
			if size != x.size {
				wantStore(t, busy(), x.at, size, x.v, api.Board{}, api.Effect{}, false)
			}
		}
	}
	for _, at := range []uint64{0x200bff8, 0x10000005, 0x10001018, 0x10002000, 0x10000002, 0x2000001, 0x10002020} {
		for _, size := range []int{1, 2, 4, 8} {
			wantStore(t, busy(), at, size, 1, api.Board{}, api.Effect{}, false)
		}
	}
}

// P12.1: the chapter's examples.
func TestExamples(t *testing.T) {
	for _, b := range []api.Board{New(), busy(), {}} {
		wantStore(t, b, 0x10000000, 1, 65, b, api.Effect{Kind: api.Out, Bytes: "A"}, true)
		wantLoad(t, b, 0x10000000, 4, 9, api.Board{}, 0, false)
	}
}

// P12.1: Act of Out: the bytes go out, whatever they are, and nothing changes.
func TestOut(t *testing.T) {
	for _, s := range []string{"A", "", "\x00", "\xff\xfe", strings.Repeat("long", 1000)} {
		for _, b := range boards() {
			wantAct(t, b, memory(1), api.Effect{Kind: api.Out, Bytes: s}, b, memory(1), s, true)
		}
		for _, m := range memories() {
			wantAct(t, busy(), m, api.Effect{Kind: api.Out, Bytes: s}, busy(), m, s, true)
		}
	}
}

// P12.1: Act of what is no effect: nothing goes out, and nothing changes.
func TestNoEffect(t *testing.T) {
	for _, kind := range []int{math.MinInt, -5, -1, 0, 6, 7, 8, 256, 257, 1<<32 + 1, math.MaxInt} {
		for _, s := range []string{"", "A"} {
			for _, m := range memories() {
				wantAct(t, busy(), m, api.Effect{Kind: kind, Bytes: s}, busy(), m, "", false)
			}
		}
	}
}

// P12.1: ReadDisk and WriteDisk by hand: sectors 0, 15, 16 and above, addresses at the memory's edges and outside it.
func TestKnownDisk(t *testing.T) {
	m := memory(2)
	disk := pattern(1024, 12)
	for _, x := range []struct {
		sector, addr uint64
		bad          bool
	}{
		{0, base, false}, {15, base, false}, {16, base, true}, {17, base, true}, {1 << 58, base, true}, {all, base, true},
		{1<<32 + 3, base, true}, {1 << 63, base, true}, {3, base + 448, false}, {3, base + 449, true}, {3, base + 511, true},
		{3, base + 512, true}, {3, base - 1, true}, {3, base - 64, true}, {3, base + 224, false}, {3, 0, true},
		{3, all, true}, {3, all - 63, true}, {3, all - 31, true}, {16, 0, true}, {15, base + 448, false},
	} {
		for n := range 4 {
			set := func(done, bad bool) api.Board {
				return with(func(b *api.Board) { b.Sector, b.Addr, b.Done, b.Bad = x.sector, x.addr, done, bad })
			}
			b, behind, mem := set(n%2 == 1, n/2 == 1), set(true, x.bad), m
			if !x.bad {
				mem = writtenBy(m, x.addr, disk[x.sector*64:x.sector*64+64])
			}
			wantAct(t, b, m, api.Effect{Kind: api.ReadDisk}, behind, mem, "", false)
			if !x.bad {
				behind.Sectors = disk[:x.sector*64] + string(m.Data[x.addr-base:x.addr-base+64]) + disk[x.sector*64+64:]
			}
			wantAct(t, b, m, api.Effect{Kind: api.WriteDisk}, behind, m, "", false)
		}
	}
}

// P12.1: ReadDisk marks the leaves that it writes, WriteDisk none.
func TestDiskMarks(t *testing.T) {
	m, e := ram.New(4, "")
	if e != api.OK {
		t.Fatal(e)
	}
	m, _ = ram.Next(m)
	for _, x := range []struct {
		addr  uint64
		marks []uint64
	}{
		{base, []uint64{1, 0, 0, 0}},
		{base + 192, []uint64{1, 0, 0, 0}},
		{base + 193, []uint64{1, 1, 0, 0}},
		{base + 511, []uint64{0, 1, 1, 0}},
		{base + 960, []uint64{0, 0, 0, 1}},
		{base + 961, []uint64{0, 0, 0, 0}},
	} {
		b := with(func(b *api.Board) { b.Addr = x.addr })
		_, got, _, _ := Act(b, m, api.Effect{Kind: api.ReadDisk})
		if !slices.Equal(got.Marks, x.marks) || got.Epoch != 1 {
			t.Errorf("ReadDisk at %x: marks %v, epoch %d", x.addr, got.Marks, got.Epoch)
		}
		_, got, _, _ = Act(b, m, api.Effect{Kind: api.WriteDisk})
		wantRam(t, "WriteDisk", got, m)
	}
}

// P12.1: a board whose Sectors haven't 1024 bytes: nothing is written, and ReadDisk is Bad by Sector alone.
func TestWrongDisk(t *testing.T) {
	m := memory(2)
	for _, size := range []int{0, 1, 63, 64, 65, 512, 1023, 1025, 1088, 4096} {
		for _, sector := range []uint64{0, 3, 15, 16, 1 << 58, all} {
			for _, addr := range []uint64{0, base - 1, base, base + 448, base + 449, all - 63, all} {
				set := func(done, bad bool) api.Board {
					return with(func(b *api.Board) {
						b.Sectors, b.Sector, b.Addr, b.Done, b.Bad = pattern(size, 1), sector, addr, done, bad
					})
				}
				for n := range 4 {
					b := set(n%2 == 1, n/2 == 1)
					wantAct(t, b, m, api.Effect{Kind: api.ReadDisk}, set(true, sector > 15), m, "", false)
					there := addr == base || addr == base+448
					wantAct(t, b, m, api.Effect{Kind: api.WriteDisk}, set(true, sector > 15 || !there), m, "", false)
				}
			}
		}
	}
}

// P12.1: Receive by hand: without a frame, with room, and with one byte too few.
func TestKnownReceive(t *testing.T) {
	m := memory(2)
	long := pattern(64, 2)
	for _, x := range []struct {
		frames []string
		addr   uint64
		taken  bool
	}{
		{nil, base, false},
		{[]string{}, base, false},
		{[]string{"a"}, base, true},
		{[]string{"a"}, base + 511, true},
		{[]string{"a"}, base + 512, false},
		{[]string{"a"}, base - 1, false},
		{[]string{"ab", "c"}, base + 510, true},
		{[]string{"ab", "c"}, base + 511, false},
		{[]string{"ab", "c"}, base - 1, false},
		{[]string{"ab", "c"}, all, false},
		{[]string{long, long}, base + 448, true},
		{[]string{long, long}, base + 449, false},
		{[]string{long, "x"}, base + 224, true},
		{[]string{long, "x"}, all - 31, false},
		{[]string{"", "c"}, base, true},
		{[]string{"", "c"}, 0, true},
		{[]string{pattern(300, 1), "c"}, base + 212, true},
		{[]string{pattern(300, 1), "c"}, base + 213, false},
	} {
		b := with(func(b *api.Board) { b.Frames, b.NicAddr, b.NicLen = x.frames, x.addr, 1 })
		behind, mem := b, m
		if x.taken {
			behind = with(func(b *api.Board) { b.Frames, b.NicAddr, b.NicLen = x.frames[1:], x.addr, 1 })
			mem = writtenBy(m, x.addr, x.frames[0])
		}
		wantAct(t, b, m, api.Effect{Kind: api.Receive, Bytes: "no"}, behind, mem, "", false)
	}
}

// P12.1: Transmit by hand: NicLen 0, 1, 64, 65 and above, and where the bytes aren't there.
func TestKnownTransmit(t *testing.T) {
	m := memory(2)
	for _, x := range []struct {
		size, addr uint64
		goes       bool
	}{
		{0, base, false}, {1, base, true}, {2, base, true}, {63, base, true}, {64, base, true}, {65, base, false}, {66, base, false},
		{256, base, false}, {1 << 32, base, false}, {1<<32 + 1, base, false}, {1 << 63, base, false}, {1<<63 + 1, base, false},
		{all, base, false}, {all - 1, base, false}, {1, base + 511, true}, {1, base + 512, false}, {1, base - 1, false},
		{64, base + 448, true}, {64, base + 449, false}, {2, base - 1, false}, {2, base + 510, true}, {2, base + 511, false},
		{64, all - 31, false}, {1, all, false}, {1, 0, false}, {0, 0, false}, {64, base + 230, true},
	} {
		b := with(func(b *api.Board) { b.NicLen, b.NicAddr = x.size, x.addr })
		s := ""
		if x.goes {
			s = string(m.Data[x.addr-base : x.addr-base+x.size])
		}
		wantAct(t, b, m, api.Effect{Kind: api.Transmit, Bytes: "no"}, b, m, s, x.goes)
	}
}

// P12.1: the disk's and the card's effects, held against the chapter's words: all boards, memories and edges.
func TestAct(t *testing.T) {
	for _, b := range boards() {
		for _, m := range []api.Ram{{}, memory(3)} {
			for kind := -1; kind < 7; kind++ {
				wantActWords(t, b, m, api.Effect{Kind: kind, Bytes: "bytes"})
			}
		}
	}
	for _, m := range memories() {
		for _, at := range edges(m, 64) {
			for _, sector := range []uint64{0, 7, 15, 16} {
				b := with(func(b *api.Board) { b.Sector, b.Addr = sector, at })
				wantActWords(t, b, m, api.Effect{Kind: api.ReadDisk})
				wantActWords(t, b, m, api.Effect{Kind: api.WriteDisk})
			}
		}
		for _, size := range []int{0, 1, 2, 63, 64, 65} {
			for _, at := range edges(m, size) {
				b := with(func(b *api.Board) { b.Frames, b.NicAddr, b.NicLen = frames(3, size), at, uint64(size) })
				wantActWords(t, b, m, api.Effect{Kind: api.Receive})
				wantActWords(t, b, m, api.Effect{Kind: api.Transmit})
			}
		}
	}
}

// P12.1: Sources: each device alone, all together, and what else there is doesn't count.
func TestSources(t *testing.T) {
	for n := range 16 {
		for _, others := range []api.Board{{}, New(), busy()} {
			b := others
			b.Ier, b.In, b.Done, b.Frames = n&1 != 0, "", n&4 != 0, nil
			want := uint32(n & 4)
			if n&2 != 0 {
				b.In = "\x00"
			}
			if n&3 == 3 {
				want += 2
			}
			if n&8 != 0 {
				b.Frames = []string{""}
				want += 8
			}
			if got := Sources(b); got != want {
				t.Errorf("Sources: %x, want %x, of %s", got, want, told(b))
			}
		}
	}
	if Sources(busy()) != 14 || Sources(New()) != 0 || Sources(api.Board{Bad: true, Msip: true, Ier: true}) != 0 {
		t.Error("Sources of known boards")
	}
	for _, b := range boards() {
		want := 2*uint32(number(b.Ier && len(b.In) > 0)) + 4*uint32(number(b.Done)) + 8*uint32(number(len(b.Frames) > 0))
		if got := Sources(b); got != want {
			t.Errorf("Sources: %x, want %x, of %s", got, want, told(b))
		}
	}
}

// P12.1: Clock: Msip, and the count just below Cmp, at it, and above.
func TestClock(t *testing.T) {
	for _, msip := range []bool{false, true} {
		for _, others := range []api.Board{{}, New(), busy()} {
			for _, x := range []struct{ cmp, count, want uint64 }{
				{0, 0, 0x80}, {0, all, 0x80}, {1, 0, 0}, {1, 1, 0x80}, {1, 2, 0x80}, {all, all - 1, 0}, {all, all, 0x80}, {all, 0, 0},
				{1 << 63, 1<<63 - 1, 0}, {1 << 63, 1 << 63, 0x80}, {1<<63 - 1, 1 << 63, 0x80}, {1 << 63, 1, 0},
				{1 << 32, 1, 0}, {1<<32 + 1, 1 << 32, 0}, {5, 1 << 32, 0x80},
			} {
				b := others
				b.Msip, b.Cmp = msip, x.cmp
				want := x.want + 8*number(msip)
				if got := Clock(b, x.count); got != want {
					t.Errorf("Clock with Msip %v, Cmp %x at %x: %x, want %x", msip, x.cmp, x.count, got, want)
				}
			}
		}
	}
}

// P12.1: Give to the serial line: at 1024 bytes of In, and one beyond.
func TestGiveSerial(t *testing.T) {
	for _, x := range []struct {
		in, more int
		ok       bool
	}{
		{0, 0, true}, {0, 1, true}, {0, 64, true}, {0, 65, true}, {0, 1023, true}, {0, 1024, true}, {0, 1025, false}, {1, 1023, true},
		{1, 1024, false}, {960, 64, true}, {961, 64, false}, {1000, 24, true}, {1000, 25, false}, {1023, 0, true}, {1023, 1, true},
		{1023, 2, false}, {1024, 0, true}, {1024, 1, false}, {1025, 0, false}, {1025, 1, false}, {3000, 0, false}, {3000, 64, false},
	} {
		for _, full := range [][]string{nil, frames(64, 64), frames(65, 1)} {
			in, more := pattern(x.in, 1), pattern(x.more, 2)
			b := with(func(b *api.Board) { b.In, b.Frames = in, full })
			behind := twin(b)
			if x.ok {
				behind.In = in + more
			}
			wantGive(t, b, api.Serial, more, behind, x.ok)
		}
	}
}

// P12.1: Give to the network card: frames of 0, 1, 64 and 65 bytes, with 63 and 64 frames.
func TestGiveNetwork(t *testing.T) {
	for _, n := range []int{0, 1, 2, 62, 63, 64, 65, 200} {
		for _, size := range []int{0, 1, 2, 63, 64, 65, 66, 1024} {
			for _, in := range []int{0, 1024, 1025} {
				b := with(func(b *api.Board) { b.Frames, b.In = frames(n, 64), pattern(in, 3) })
				data, ok := pattern(size, 9), n < 64 && size > 0 && size < 65
				behind := twin(b)
				if ok {
					behind.Frames = append(frames(n, 64), data)
				}
				wantGive(t, b, api.Network, data, behind, ok)
			}
		}
	}
}

// P12.1: Give to a device that is none: false, and the board as it was.
func TestGiveNobody(t *testing.T) {
	for _, dev := range []int{math.MinInt, -2, -1, 0, 3, 4, 8, 256, 257, 1 << 32, 1<<32 + 1, 1<<32 + 2, math.MaxInt} {
		for _, data := range []string{"", "A", pattern(64, 1)} {
			wantGive(t, busy(), dev, data, busy(), false)
			wantGive(t, New(), dev, data, New(), false)
		}
	}
	for _, b := range boards() {
		for dev := -1; dev < 5; dev++ {
			for _, size := range []int{0, 1, 64, 65, 1024, 1025} {
				data := pattern(size, 7)
				behind, ok := giveBy(b, dev, data)
				wantGive(t, b, dev, data, behind, ok)
			}
		}
	}
}

// chance: a board by chance; a right one, if that is asked.
func chance(r *rand.Rand, right bool) api.Board {
	b := api.Board{
		Msip: r.Intn(2) == 0, Cmp: r.Uint64() >> r.Intn(64), In: pattern(r.Intn(4), r.Int63()), Ier: r.Intn(2) == 0,
		Sectors: pattern(1024, r.Int63()), Sector: uint64(r.Intn(18)), Addr: base + uint64(r.Intn(700)), Done: r.Intn(2) == 0,
		Bad: r.Intn(2) == 0, NicAddr: base + uint64(r.Intn(800)), NicLen: uint64(r.Intn(67)),
	}
	for range r.Intn(4) {
		b.Frames = append(b.Frames, pattern(r.Intn(65), r.Int63()))
	}
	switch r.Intn(8) {
	case 0:
		b.In = pattern(960+r.Intn(65), r.Int63())
	case 1:
		b.Frames = frames(62+r.Intn(3), r.Intn(65))
	case 2:
		b.Sector, b.NicLen, b.Addr, b.NicAddr = r.Uint64(), r.Uint64(), r.Uint64(), r.Uint64()
	}
	if !right && r.Intn(2) == 0 {
		b.In, b.Sectors, b.Frames = pattern(r.Intn(2000), 1), pattern(r.Intn(2000), 2), frames(r.Intn(90), r.Intn(90))
	}
	return b
}

// P12.1: boards by chance, right and wrong, held against the chapter's words.
func TestByChance(t *testing.T) {
	r := rand.New(rand.NewSource(1210))
	m := memory(3)
	for range 1 << 13 {
		b := chance(r, false)
		p := places()[r.Intn(14)]
		board, n, ok := loadBy(b, p.at, p.size, 6)
		wantLoad(t, b, p.at, p.size, 6, board, n, ok)
		v := r.Uint64() >> r.Intn(64)
		board, e, ok := storeBy(b, p.at, p.size, v)
		wantStore(t, b, p.at, p.size, v, board, e, ok)
		wantActWords(t, b, m, api.Effect{Kind: r.Intn(7), Bytes: "out"})
		dev, data := r.Intn(4), pattern(r.Intn(70), r.Int63())
		board, ok = giveBy(b, dev, data)
		wantGive(t, b, dev, data, board, ok)
		if Right(b) != rightBy(b) {
			t.Errorf("Right: %v, of %s", Right(b), told(b))
		}
	}
}

// P12.2: of a right board each call leaves a right one, call behind call.
func TestRightStaysRight(t *testing.T) {
	r := rand.New(rand.NewSource(1220))
	full := map[string]int{}
	for range 64 {
		b, m := chance(r, true), memory(3)
		for range 1024 {
			was := b
			p := places()[r.Intn(14)]
			v := [...]uint64{uint64(r.Intn(18)), base + uint64(r.Intn(800)), r.Uint64()}[r.Intn(3)]
			what := ""
			switch r.Intn(8) {
			case 0:
				if next, _, ok := Load(b, p.at, p.size, v); ok {
					what, b = fmt.Sprintf("Load(%x)", p.at), next
				}
			case 1, 2:
				if next, e, ok := Store(b, p.at, p.size, v); ok {
					what = fmt.Sprintf("Store(%x, %x)", p.at, v)
					b, m, _, _ = Act(next, m, e)
				}
			case 3:
				e := api.Effect{Kind: r.Intn(8) - 1, Bytes: pattern(r.Intn(2000), 1)}
				what = fmt.Sprintf("Act of %d", e.Kind)
				b, m, _, _ = Act(b, m, e)
			case 4:
				what, b = "Copy", Copy(b)
			default:
				dev, data := r.Intn(4), pattern(r.Intn(70), r.Int63())
				next, ok := Give(b, dev, data)
				what, b = fmt.Sprintf("Give(%d, %d bytes)", dev, len(data)), next
				full[fmt.Sprint(dev, ok)]++
			}
			if !rightBy(b) || !Right(b) || ram.Check(m) != api.OK {
				t.Fatalf("%s of a right board leaves %s;\n\tit was %s", what, told(b), told(was))
			}
		}
	}
	for _, way := range []string{"1 true", "1 false", "2 true", "2 false"} {
		if full[way] < 100 {
			t.Errorf("Give %s: %d times", way, full[way])
		}
	}
}

// P12.3: bytes that were given to the serial line are read one by one, in order, whatever else is done between.
func TestBytesInBytesOut(t *testing.T) {
	r := rand.New(rand.NewSource(1230))
	m := memory(2)
	for range 32 {
		b := New()
		given, read := "", ""
		for range 2048 {
			p := places()[r.Intn(14)]
			switch r.Intn(6) {
			case 0:
				data := pattern(1+r.Intn(64), r.Int63())
				next, ok := Give(b, api.Serial, data)
				if ok {
					given += data
				}
				b = next
			case 1:
				b, _ = Give(b, 2+r.Intn(2), pattern(r.Intn(66), r.Int63()))
			case 2:
				if next, e, ok := Store(b, p.at, p.size, uint64(r.Intn(5))); ok {
					b, m, _, _ = Act(next, m, e)
				}
			case 3:
				if next, _, ok := Load(b, p.at, p.size, 1); ok && p.at != 0x10000000 {
					b = next
				}
			default:
				read, b = readOne(t, b, read)
			}
		}
		for n := len(given) - len(read); n > 0; n-- {
			read, b = readOne(t, b, read)
		}
		if given != read {
			t.Fatalf("given %d bytes, read %d others", len(given), len(read))
		}
		wantLoad(t, b, 0x10000000, 1, 0, b, 0, true)
		wantLoad(t, b, 0x10000005, 1, 0, b, 0x60, true)
	}
}

// readOne: what was read and, if the status tells of one, one byte more; and the board behind it.
func readOne(t *testing.T, b api.Board, read string) (string, api.Board) {
	t.Helper()
	b, status, ok := Load(b, 0x10000005, 1, 0)
	if !ok || status&^1 != 0x60 {
		t.Fatalf("the status: %x, %v", status, ok)
	}
	if status == 0x60 {
		return read, b
	}
	b, n, ok := Load(b, 0x10000000, 1, 0)
	if !ok || n > 255 {
		t.Fatalf("a byte: %x, %v", n, ok)
	}
	return read + string([]byte{byte(n)}), b
}

// disk: a sector is read or written by stores, as a program does it; the status then tells that it is done, and well.
func disk(t *testing.T, b api.Board, m api.Ram, order, sector, addr uint64) (api.Board, api.Ram) {
	t.Helper()
	for _, x := range []struct{ at, v uint64 }{{0x10001000, sector}, {0x10001008, addr}, {0x10001010, order}} {
		next, e, ok := Store(b, x.at, 8, x.v)
		if !ok || (e.Kind != api.Nothing) != (x.at == 0x10001010) {
			t.Fatalf("Store at %x: %v, %v", x.at, e, ok)
		}
		out := false
		if b, m, _, out = Act(next, m, e); out {
			t.Fatalf("order %d: something went out", order)
		}
	}
	b, n, ok := Load(b, 0x10001018, 8, 0)
	if !ok || n != 1 {
		t.Fatalf("order %d, sector %d, addr %x: status %d, %v", order, sector, addr, n, ok)
	}
	return b, m
}

// P12.4: what WriteDisk took ReadDisk puts back, sector by sector, and elsewhere; all other sectors stay.
func TestSectors(t *testing.T) {
	r := rand.New(rand.NewSource(1240))
	for range 8 {
		b, m := New(), memory(3)
		kept := map[uint64]string{}
		for sector := range uint64(16) {
			kept[sector] = strings.Repeat("\x00", 64)
		}
		for range 400 {
			sector, addr := uint64(r.Intn(16)), base+uint64(r.Intn(768-63))
			ram.Put(&m, base, pattern(768, r.Int63()))
			if r.Intn(2) == 0 {
				was := twinRam(m)
				b, m = disk(t, b, m, 2, sector, addr)
				wantRam(t, "WriteDisk", m, was)
				kept[sector] = textBy(m, addr, 64)
				continue
			}
			want := writtenBy(m, addr, kept[sector])
			b, m = disk(t, b, m, 1, sector, addr)
			wantRam(t, "ReadDisk", m, want)
		}
		all := ""
		for sector := range uint64(16) {
			all += kept[sector]
		}
		if b.Sectors != all {
			t.Error("a sector changed that wasn't written")
		}
	}
}

// scribble: other frames, in the spare room too.
func scribble(b api.Board) {
	list := b.Frames[:cap(b.Frames)]
	for i := range list {
		list[i] += "!"
	}
}

// scribbleRam: other bytes and marks, likewise.
func scribbleRam(m api.Ram) {
	data, marks := m.Data[:cap(m.Data)], m.Marks[:cap(m.Marks)]
	for i := range data {
		data[i] ^= 0xff
	}
	for i := range marks {
		marks[i] ^= 0xff
	}
}

// roomy: a board and a memory whose lists have spare room.
func roomy() (api.Board, api.Ram) {
	b, m := busy(), memory(2)
	b.Frames = append(make([]string, 0, 9), b.Frames...)
	for i := range b.Frames[:9][3:] {
		b.Frames[:9][3+i] = "spare"
	}
	m.Data, m.Marks = append(make([]byte, 0, 1000), m.Data...), append(make([]uint64, 0, 9), m.Marks...)
	return b, m
}

// P1 (new memory): an answer shares nothing with what was handed in, and its spare room stays as it was.
func TestNewMemory(t *testing.T) {
	calls := []func(b api.Board, m api.Ram) (api.Board, api.Ram){
		func(b api.Board, m api.Ram) (api.Board, api.Ram) { return Copy(b), api.Ram{} },
	}
	for _, p := range places() {
		calls = append(calls, func(b api.Board, m api.Ram) (api.Board, api.Ram) {
			b, _, _ = Load(b, p.at, p.size, 1)
			return b, api.Ram{}
		}, func(b api.Board, m api.Ram) (api.Board, api.Ram) {
			b, _, _ = Store(b, p.at, p.size, 1)
			return b, api.Ram{}
		})
	}
	for kind := -1; kind < 8; kind++ {
		calls = append(calls, func(b api.Board, m api.Ram) (api.Board, api.Ram) {
			b, m, _, _ = Act(b, m, api.Effect{Kind: kind, Bytes: "x"})
			return b, m
		})
	}
	for dev := range 4 {
		for _, data := range []string{"", "A", pattern(65, 1), pattern(2000, 1)} {
			calls = append(calls, func(b api.Board, m api.Ram) (api.Board, api.Ram) {
				b, _ = Give(b, dev, data)
				return b, api.Ram{}
			})
		}
	}
	for i, call := range calls {
		b, m := roomy()
		before, memBefore := roomy()
		gotB, gotM := call(b, m)
		scribble(gotB)
		scribbleRam(gotM)
		if !slices.Equal(b.Frames[:9], before.Frames[:9]) || !same(b, before) {
			t.Errorf("call %d changed the board", i)
		}
		if !slices.Equal(m.Data[:1000], memBefore.Data[:1000]) || !slices.Equal(m.Marks[:9], memBefore.Marks[:9]) || !sameRam(m, memBefore) {
			t.Errorf("call %d changed the memory", i)
		}
		b, m = roomy()
		gotB, gotM = call(b, m)
		keptB, keptM := twin(gotB), twinRam(gotM)
		scribble(b)
		scribbleRam(m)
		wantBoard(t, fmt.Sprint("answer of call ", i), gotB, keptB)
		wantRam(t, fmt.Sprint("answer of call ", i), gotM, keptM)
	}
}

// P1: the same calls answer the same, in the other order too.
func TestAsksNothingElse(t *testing.T) {
	r := rand.New(rand.NewSource(1201))
	m := memory(3)
	var calls []func() string
	for range 1 << 9 {
		b, p := chance(r, false), places()[r.Intn(14)]
		v, e := r.Uint64()>>r.Intn(64), api.Effect{Kind: r.Intn(6), Bytes: "x"}
		dev, data := r.Intn(4), pattern(r.Intn(66), r.Int63())
		calls = append(calls, func() string {
			a, n, ok := Load(b, p.at, p.size, v)
			c, f, may := Store(b, p.at, p.size, v)
			d, mem, s, out := Act(b, m, e)
			g, room := Give(b, dev, data)
			return fmt.Sprint(a, n, ok, c, f, may, d, mem, s, out, g, room, Right(b), Copy(b), Sources(b), Clock(b, v), New())
		})
	}
	var answers []string
	for _, call := range calls {
		answers = append(answers, call())
	}
	for i := len(calls) - 1; i >= 0; i-- {
		if calls[i]() != answers[i] {
			t.Errorf("call %d: another answer", i)
		}
	}
}

// P1: numbers of any kind, at all arguments.
func TestAnything(t *testing.T) {
	r := rand.New(rand.NewSource(1202))
	for range 1 << 12 {
		b := api.Board{
			Cmp: r.Uint64(), In: pattern(r.Intn(3), 1), Sectors: pattern(r.Intn(3)*512, 2), Sector: r.Uint64() >> r.Intn(64),
			Addr: r.Uint64() >> r.Intn(64), NicAddr: r.Uint64() >> r.Intn(64), NicLen: r.Uint64() >> r.Intn(64),
			Frames: frames(r.Intn(3), r.Intn(3)*100),
		}
		at, size, v := r.Uint64()>>r.Intn(64), int(r.Uint64()>>r.Intn(64)), r.Uint64()
		board, n, ok := loadBy(b, at, size, v)
		wantLoad(t, b, at, size, v, board, n, ok)
		board, e, ok := storeBy(b, at, size, v)
		wantStore(t, b, at, size, v, board, e, ok)
		for _, m := range memories() {
			wantActWords(t, b, m, api.Effect{Kind: r.Intn(6)})
		}
		wantActWords(t, b, api.Ram{}, api.Effect{Kind: int(r.Uint64())})
		dev := int(r.Uint64() >> r.Intn(64))
		board, ok = giveBy(b, dev, "data")
		wantGive(t, b, dev, "data", board, ok)
	}
}
