package ram

import (
	"math"
	"math/rand"
	"slices"
	"strings"
	"testing"

	"tandem/api"
)

const base = uint64(0x80000000)

// sizes: those that the chapter tells apart, and some beside them.
var sizes = []int{math.MinInt, -9, -1, 0, 1, 2, 3, 4, 5, 6, 7, 8, 9, 16, 255, 256, 257, math.MaxInt}

func loadable(size int) bool { return slices.Contains([]int{1, 2, 4, 8}, size) }

func same(a, b api.Ram) bool {
	return slices.Equal(a.Data, b.Data) && slices.Equal(a.Marks, b.Marks) && a.Epoch == b.Epoch
}

func nothing(m api.Ram) bool { return len(m.Data) == 0 && len(m.Marks) == 0 && m.Epoch == 0 }

// twin: the same memory, made apart from the program.
func twin(m api.Ram) api.Ram {
	return api.Ram{Data: slices.Clone(m.Data), Marks: slices.Clone(m.Marks), Epoch: m.Epoch}
}

// memory: of so many bytes by chance, so many marks and that epoch.
func memory(r *rand.Rand, bytes, marks int, epoch uint64) api.Ram {
	m := api.Ram{Data: make([]byte, bytes), Marks: make([]uint64, marks), Epoch: epoch}
	r.Read(m.Data)
	for i := range m.Marks {
		m.Marks[i] = uint64(r.Intn(9))
	}
	return m
}

// memories: such as may be, and such as may not.
func memories() []api.Ram {
	r := rand.New(rand.NewSource(5))
	list := []api.Ram{{}, {Epoch: 7}, {Marks: []uint64{1, 2}, Epoch: 2}}
	for _, n := range []int{1, 2, 3, api.MaxLeaves, api.MaxLeaves + 1} {
		list = append(list, memory(r, n*256, n, 9))
	}
	for _, n := range []int{1, 2, 255, 256, 257, 300, 511, 512, 700} {
		for marks := range 4 {
			list = append(list, memory(r, n, marks, uint64(r.Intn(9))))
		}
	}
	return append(list, memory(r, 512, 2, 1<<62-1), memory(r, 512, 2, 1<<62), memory(r, 256, 1, math.MaxUint64))
}

// inData: is the address one of Data's? Apart from the program: a sum that goes round is below the base.
func inData(m api.Ram, at uint64) bool { return at >= base && at-base < uint64(len(m.Data)) }

// allThere: by the chapter's words, address by address (only as far as is needed).
func allThere(m api.Ram, at uint64, size int) bool {
	if size < 0 {
		return false
	}
	for i := range size {
		if !inData(m, at+uint64(i)) {
			return false
		}
	}
	return true
}

// written: the memory behind the bytes, by the chapter's words and apart from the program.
func written(m api.Ram, at uint64, s string) api.Ram {
	m = twin(m)
	for i := range len(s) {
		place := int(at + uint64(i) - base)
		m.Data[place] = s[i]
		if place/256 < len(m.Marks) {
			m.Marks[place/256] = m.Epoch
		}
	}
	return m
}

// addresses: the edges of a memory, of its leaves, and of all addresses.
func addresses(m api.Ram) []uint64 {
	n := uint64(len(m.Data))
	list := []uint64{0, 1, 255, n, base >> 1, 1 << 63, base + 1<<32, base + 1<<63, math.MaxUint64 - 255}
	for d := range uint64(10) {
		list = append(list, base+d, base-d, base+n-d, base+n+d, base+256-d, base+256+d, math.MaxUint64-d)
	}
	return list
}

func wantRam(t *testing.T, what string, got, want api.Ram) {
	t.Helper()
	if !same(got, want) {
		t.Errorf("%s: %d bytes, marks %.40v, epoch %d, want %d bytes, marks %.40v, epoch %d", what,
			len(got.Data), got.Marks, got.Epoch, len(want.Data), want.Marks, want.Epoch)
	}
}

// wantNoRam: the call told the error, and nothing beside it.
func wantNoRam(t *testing.T, what string, got api.Ram, e, want api.Errno) {
	t.Helper()
	if e != want || !nothing(got) {
		t.Errorf("%s: error %d, want %d, and %d bytes beside it", what, e, want, len(got.Data))
	}
}

// wantGood: no error and that memory.
func wantGood(t *testing.T, what string, got api.Ram, e api.Errno, want api.Ram) {
	t.Helper()
	if e != api.OK {
		t.Errorf("%s: error %d", what, e)
	}
	wantRam(t, what, got, want)
}

// P5.1: Check: 1 to MaxLeaves marks, 256 bytes for each, no mark above Epoch.
func TestCheck(t *testing.T) {
	for _, c := range []struct {
		what         string
		bytes, marks int
		want         api.Errno
	}{
		{"no mark", 0, 0, api.ErrRam},
		{"no mark, a leaf", 256, 0, api.ErrRam},
		{"one", 256, 1, api.OK},
		{"two", 512, 2, api.OK},
		{"MaxLeaves", 65536, 256, api.OK},
		{"one more", 65792, 257, api.ErrRam},
		{"no byte", 0, 1, api.ErrRam},
		{"a byte fewer", 255, 1, api.ErrRam},
		{"a byte more", 257, 1, api.ErrRam},
		{"a leaf more", 512, 1, api.ErrRam},
		{"a leaf fewer", 256, 2, api.ErrRam},
		{"a byte fewer in two", 511, 2, api.ErrRam},
		{"a byte more in two", 513, 2, api.ErrRam},
		{"a leaf fewer at MaxLeaves", 65280, 256, api.ErrRam},
	} {
		m := api.Ram{Data: make([]byte, c.bytes), Marks: make([]uint64, c.marks)}
		if got := Check(m); got != c.want {
			t.Errorf("Check of %s: %d, want %d", c.what, got, c.want)
		}
	}
}

// P5.1: Check: a mark may be Epoch, whichever it is, but not above it.
func TestCheckMarks(t *testing.T) {
	for _, epoch := range []uint64{0, 1, 5, 1<<62 - 1, 1 << 62, 1 << 63, math.MaxUint64} {
		for leaf := range 3 {
			m := api.Ram{Data: make([]byte, 768), Marks: make([]uint64, 3), Epoch: epoch}
			m.Marks[leaf] = epoch
			if e := Check(m); e != api.OK {
				t.Errorf("Check with mark %d at epoch %d: %d", leaf, epoch, e)
			}
			m.Marks[leaf]++
			want := api.ErrRam
			if epoch == math.MaxUint64 {
				want = api.OK
			}
			if e := Check(m); e != want {
				t.Errorf("Check with mark %d above epoch %d: %d", leaf, epoch, e)
			}
		}
	}
}

// P5.1: New: leaves of noughts with boot at the beginning, epoch and marks 0.
func TestNew(t *testing.T) {
	for _, leaves := range []int{1, 2, 255, 256} {
		for _, n := range []int{0, 1, 255, 256, leaves*256 - 1, leaves * 256} {
			boot := strings.Repeat("boot", leaves*64)[:min(n, leaves*256)]
			want := api.Ram{Data: make([]byte, leaves*256), Marks: make([]uint64, leaves)}
			copy(want.Data, boot)
			got, e := New(leaves, boot)
			wantGood(t, "New", got, e, want)
			if Check(got) != api.OK {
				t.Errorf("New of %d leaves may not be", leaves)
			}
		}
	}
}

// P5.1: New: leaves that may not be (first), and more bytes than there is room for.
func TestNewRefuses(t *testing.T) {
	long := strings.Repeat("x", 65537)
	for _, leaves := range []int{0, -1, -256, 257, 1 << 20, 1 << 55, 1 << 56, math.MinInt, math.MaxInt} {
		for _, boot := range []string{"", "ab", long} {
			m, e := New(leaves, boot)
			wantNoRam(t, "New", m, e, api.ErrRam)
		}
	}
	for _, leaves := range []int{1, 2, 255, 256} {
		m, e := New(leaves, long[:leaves*256+1])
		wantNoRam(t, "New with one byte more", m, e, api.ErrLong)
		m, e = New(leaves, long)
		wantNoRam(t, "New with many bytes more", m, e, api.ErrLong)
	}
}

// P5.1: Copy: the same, whatever it is, as new memory.
func TestCopy(t *testing.T) {
	for _, m := range memories() {
		was := twin(m)
		got := Copy(m)
		wantRam(t, "Copy", got, was)
		scribble(got)
		wantRam(t, "the copied one", m, was)
	}
}

// scribble: other bytes and marks, in the spare room too.
func scribble(m api.Ram) {
	data, marks := m.Data[:cap(m.Data)], m.Marks[:cap(m.Marks)]
	for i := range data {
		data[i] ^= 0xff
	}
	for i := range marks {
		marks[i] ^= 0xff
	}
}

// P5.1: Load: ErrArg for the size first, ErrRam where a byte isn't there, else the bytes with the least first.
func TestLoad(t *testing.T) {
	for _, m := range memories() {
		for _, at := range addresses(m) {
			for _, size := range sizes {
				var n uint64
				want := api.OK
				switch {
				case !loadable(size):
					want = api.ErrArg
				case !allThere(m, at, size):
					want = api.ErrRam
				default:
					for i := range size {
						n += uint64(m.Data[int(at-base)+i]) << (8 * i)
					}
				}
				if got, e := Load(m, at, size); got != n || e != want {
					t.Errorf("Load of %d bytes at %x of %d: %x, error %d, want %x, %d", size, at, len(m.Data), got, e, n, want)
				}
			}
		}
	}
}

// P5.1: the chapter's examples, and what crosses from one leaf to the next.
func TestExamples(t *testing.T) {
	m, _ := New(1, "ab")
	if n, e := Load(m, base, 2); n != 0x6261 || e != api.OK {
		t.Errorf("Load of ab: %x, error %d", n, e)
	}
	if n, e := Load(m, base+0xff, 2); n != 0 || e != api.ErrRam {
		t.Errorf("Load over the end: %x, error %d", n, e)
	}
	m, _ = New(2, strings.Repeat("x", 252)+"12345678")
	if n, e := Load(m, base+252, 8); n != 0x3837363534333231 || e != api.OK {
		t.Errorf("Load across the leaves: %x, error %d", n, e)
	}
	if s, e := Text(m, base+255, 2); s != "45" || e != api.OK {
		t.Errorf("Text across the leaves: %q, error %d", s, e)
	}
}

// P5.1: Put: all bytes and their leaves' marks, or false and nothing; no bytes anywhere: true.
func TestPut(t *testing.T) {
	bytes := strings.Repeat("put ", 200)
	for _, m := range memories() {
		for _, at := range addresses(m) {
			for _, size := range []int{0, 1, 2, 8, 9, 256, 257, 258, 512, 513, 700} {
				got, want := twin(m), m
				ok := size == 0 || allThere(m, at, size)
				if ok {
					want = written(m, at, bytes[:size])
				}
				if Put(&got, at, bytes[:size]) != ok {
					t.Errorf("Put of %d bytes at %x of %d: not %v", size, at, len(m.Data), ok)
				}
				wantRam(t, "Put", got, want)
			}
		}
	}
}

// P5.1: Put writes into the memory that is pointed at, and marks none but the leaves of its bytes.
func TestPutMarks(t *testing.T) {
	m, _ := New(4, "")
	m.Epoch = 3
	data, marks := m.Data, m.Marks
	for _, c := range []struct {
		at   uint64
		size int
		want []uint64
	}{
		{base + 512, 0, []uint64{0, 0, 0, 0}},
		{base + 256, 256, []uint64{0, 3, 0, 0}},
		{base + 767, 2, []uint64{0, 3, 3, 3}},
		{base + 255, 1, []uint64{3, 3, 3, 3}},
	} {
		if !Put(&m, c.at, strings.Repeat("x", c.size)) || !slices.Equal(m.Marks, c.want) {
			t.Errorf("Put of %d at %x: marks %v, want %v", c.size, c.at, m.Marks, c.want)
		}
	}
	if &data[0] != &m.Data[0] || &marks[0] != &m.Marks[0] || m.Epoch != 3 {
		t.Error("Put: another memory than the one that is pointed at")
	}
	if Put(nil, base, "a") || !Put(nil, base, "") {
		t.Error("Put into no memory")
	}
}

// P5.1: Bytes: the low bytes, the least first.
func TestBytes(t *testing.T) {
	for _, n := range []uint64{0, 1, 0x0123456789abcdef, 0xfedcba9876543210, math.MaxUint64, 1 << 63} {
		for size := range 9 {
			got := Bytes(n, size)
			if len(got) != size {
				t.Errorf("Bytes(%x, %d): %d bytes", n, size, len(got))
			}
			rest := n
			for i := range len(got) {
				if uint64(got[i]) != rest%256 {
					t.Errorf("Bytes(%x, %d): %q", n, size, got)
				}
				rest /= 256
			}
		}
	}
	if Bytes(0x6162636465666768, 8) != "hgfedcba" || Bytes(0x6162636465666768, 3) != "hgf" || Bytes(1, 0) != "" {
		t.Error("Bytes of letters")
	}
}

// P5.1: Store: ErrArg for the size first, ErrRam, else a copy with the low bytes; what it is given stays.
func TestStore(t *testing.T) {
	const n = uint64(0xf0e1d2c3b4a59687)
	for _, m := range memories() {
		was := twin(m)
		for _, at := range addresses(m) {
			for _, size := range sizes {
				got, e := Store(m, at, size, n)
				switch {
				case !loadable(size):
					wantNoRam(t, "Store", got, e, api.ErrArg)
				case !allThere(m, at, size):
					wantNoRam(t, "Store", got, e, api.ErrRam)
				default:
					wantGood(t, "Store", got, e, written(m, at, "\x87\x96\xa5\xb4\xc3\xd2\xe1\xf0"[:size]))
				}
			}
		}
		wantRam(t, "what Store was given", m, was)
	}
}

// P5.1: Text: so many bytes, none at any address, ErrRam where one isn't there.
func TestText(t *testing.T) {
	for _, m := range memories() {
		for _, at := range addresses(m) {
			for _, size := range append([]int{len(m.Data), len(m.Data) + 1, 512}, sizes...) {
				s, want := "", api.ErrRam
				if size == 0 || allThere(m, at, size) {
					want = api.OK
					for i := range size {
						s += string(m.Data[int(at-base)+i : int(at-base)+i+1])
					}
				}
				if got, e := Text(m, at, size); got != s || e != want {
					t.Errorf("Text of %d bytes at %x of %d: %d bytes, error %d, want error %d", size, at, len(m.Data), len(got), e, want)
				}
			}
		}
	}
}

// P5.1: Next: one more, but not from 2^62 on; all else the same, as new memory.
func TestNext(t *testing.T) {
	for _, c := range []struct{ epoch, want uint64 }{
		{0, 1}, {1, 2}, {41, 42}, {1<<62 - 2, 1<<62 - 1}, {1<<62 - 1, 1 << 62},
		{1 << 62, 1 << 62}, {1<<62 + 1, 1<<62 + 1}, {1 << 63, 1 << 63}, {math.MaxUint64, math.MaxUint64},
	} {
		for _, m := range memories() {
			m.Epoch = c.epoch
			was := twin(m)
			want := twin(m)
			want.Epoch = c.want
			got, n := Next(m)
			if n != c.want {
				t.Errorf("Next of %d: %d, want %d", c.epoch, n, c.want)
			}
			wantRam(t, "Next", got, want)
			scribble(got)
			wantRam(t, "what Next was given", m, was)
		}
	}
}

// P5.1: Since: the leaves with a mark that isn't below; a mark without a leaf is none's, a leaf without a mark is in none.
func TestSince(t *testing.T) {
	for _, m := range memories() {
		for _, epoch := range []uint64{0, 1, 4, 8, 9, 1 << 62, math.MaxUint64} {
			var want []int
			for leaf := range len(m.Data) / 256 {
				if leaf < len(m.Marks) && m.Marks[leaf] >= epoch {
					want = append(want, leaf)
				}
			}
			if got := Since(m, epoch); !slices.Equal(got, want) {
				t.Errorf("Since %d of %d bytes, marks %.40v: %v, want %v", epoch, len(m.Data), m.Marks, got, want)
			}
		}
	}
	m := api.Ram{Data: make([]byte, 1024), Marks: []uint64{5, 3, 4, math.MaxUint64}, Epoch: 5}
	for _, c := range []struct {
		epoch uint64
		want  []int
	}{{0, []int{0, 1, 2, 3}}, {4, []int{0, 2, 3}}, {5, []int{0, 3}}, {6, []int{3}}} {
		if got := Since(m, c.epoch); !slices.Equal(got, c.want) {
			t.Errorf("Since %d: %v, want %v", c.epoch, got, c.want)
		}
	}
}

// wantPieces: the leaves' bytes, in that order.
func wantPieces(t *testing.T, m api.Ram, leaves ...int) {
	t.Helper()
	got, e := Pieces(m, leaves...)
	if e != api.OK || len(got) != len(leaves) {
		t.Fatalf("Pieces of %v: %d pieces, error %d", leaves, len(got), e)
	}
	for i, p := range got {
		if p.Leaf != leaves[i] || p.Bytes != string(m.Data[leaves[i]*256:leaves[i]*256+256]) {
			t.Errorf("Pieces of %v: the one at %d is wrong", leaves, i)
		}
	}
}

// P5.1: Pieces: in the order asked, one asked twice told twice; leaves that aren't there.
func TestPieces(t *testing.T) {
	for _, m := range memories() {
		n := len(m.Data) / 256
		wantPieces(t, m)
		for leaf := range n {
			wantPieces(t, m, leaf)
			wantPieces(t, m, leaf, leaf)
			wantPieces(t, m, n-1, leaf, 0, leaf)
		}
		for _, leaf := range []int{n, n + 1, -1, -2, -256, math.MaxInt, math.MinInt, math.MaxInt / 256, 1 << 56} {
			for _, list := range [][]int{{leaf}, {0, leaf}, {leaf, 0}, {leaf, leaf}} {
				if got, e := Pieces(m, list...); e != api.ErrRam || len(got) != 0 {
					t.Errorf("Pieces of %v of %d leaves: %d pieces, error %d", list, n, len(got), e)
				}
			}
		}
	}
}

// P5.1: Lay: the pieces, one behind the other, so that the last one of a leaf stays.
func TestLay(t *testing.T) {
	r := rand.New(rand.NewSource(6))
	for _, m := range memories() {
		n := len(m.Data) / 256
		got, e := Lay(m)
		wantGood(t, "Lay of nothing", got, e, m)
		if n == 0 {
			continue
		}
		for range 8 {
			was := twin(m)
			want := twin(m)
			var pieces []api.Piece
			for range 1 + r.Intn(5) {
				p := api.Piece{Leaf: r.Intn(n), Bytes: strings.Repeat(string('a'+rune(r.Intn(26))), 256)}
				pieces = append(pieces, p)
				want = written(want, base+uint64(p.Leaf)*256, p.Bytes)
			}
			got, e := Lay(m, pieces...)
			wantGood(t, "Lay", got, e, want)
			scribble(got)
			wantRam(t, "what Lay was given", m, was)
		}
	}
}

// P5.1: Lay: leaves that aren't there and pieces that haven't 256 bytes, ahead of and behind good ones.
func TestLayRefuses(t *testing.T) {
	m, _ := New(3, "abc")
	good := strings.Repeat("g", 257)
	first := api.Piece{Leaf: 1, Bytes: good[:256]}
	for _, leaf := range []int{-1, 3, 4, 256, math.MaxInt, math.MinInt, 1 << 56} {
		for _, p := range [][]api.Piece{{{Leaf: leaf, Bytes: good[:256]}}, {first, {Leaf: leaf, Bytes: good[:256]}}, {{Leaf: leaf}, first}} {
			got, e := Lay(m, p...)
			wantNoRam(t, "Lay without the leaf", got, e, api.ErrRam)
		}
	}
	for _, size := range []int{0, 1, 255, 257} {
		for _, p := range [][]api.Piece{{{Leaf: 2, Bytes: good[:size]}}, {first, {Leaf: 2, Bytes: good[:size]}}, {{Leaf: 0, Bytes: good[:size]}, first}} {
			got, e := Lay(m, p...)
			wantNoRam(t, "Lay of another size", got, e, api.ErrRam)
		}
	}
	if s, _ := Text(m, base, 768); s != "abc"+strings.Repeat("\x00", 765) {
		t.Error("Lay wrote into what it was given")
	}
}

// P5.2: what Store wrote Load reads, by its low bytes; all bytes elsewhere stay.
func TestStoredIsLoaded(t *testing.T) {
	r := rand.New(rand.NewSource(7))
	m := memory(r, 1024, 4, 9)
	for range 4000 {
		size := []int{1, 2, 4, 8}[r.Intn(4)]
		at, n := base+uint64(r.Intn(1024-size+1)), r.Uint64()
		out, e := Store(m, at, size, n)
		if e != api.OK {
			t.Fatalf("Store of %d at %x: error %d", size, at, e)
		}
		for _, s := range []int{1, 2, 4, 8} {
			if s > size {
				continue
			}
			got, e := Load(out, at, s)
			if e != api.OK || got != n<<(64-8*s)>>(64-8*s) {
				t.Errorf("Load of %d at %x behind Store of %x: %x, error %d", s, at, n, got, e)
			}
		}
		first := int(at - base)
		if !slices.Equal(out.Data[:first], m.Data[:first]) || !slices.Equal(out.Data[first+size:], m.Data[first+size:]) {
			t.Errorf("Store of %d at %x: other bytes are changed", size, at)
		}
		m = out
	}
}

// change: writes by chance, in one of the ways that there are.
func change(t *testing.T, r *rand.Rand, m api.Ram) api.Ram {
	t.Helper()
	n := len(m.Data)
	e := api.OK
	switch r.Intn(3) {
	case 0:
		m, e = Store(m, base+uint64(r.Intn(n-8)), 8, r.Uint64())
	case 1:
		size := r.Intn(300)
		if !Put(&m, base+uint64(r.Intn(n-size)), strings.Repeat("p", size)) {
			t.Fatal("Put of bytes that are there")
		}
	default:
		m, e = Lay(m, api.Piece{Leaf: r.Intn(n / 256), Bytes: strings.Repeat("l", 256)})
	}
	if e != api.OK {
		t.Fatalf("a write: error %d", e)
	}
	return m
}

// P5.3: behind Next each leaf that differs is in Since of that epoch, and its piece makes the new Data of the old memory.
func TestNothingIsMissed(t *testing.T) {
	r := rand.New(rand.NewSource(8))
	m := memory(r, 8*256, 8, 9)
	for range 400 {
		var epoch uint64
		m, epoch = Next(m)
		old := twin(m)
		for range r.Intn(5) {
			m = change(t, r, m)
		}
		since := Since(m, epoch)
		for leaf := range 8 {
			differs := string(old.Data[leaf*256:leaf*256+256]) != string(m.Data[leaf*256:leaf*256+256])
			if differs && !slices.Contains(since, leaf) {
				t.Fatalf("leaf %d is missed in %v", leaf, since)
			}
		}
		pieces, e := Pieces(m, since...)
		if e != api.OK {
			t.Fatalf("Pieces of %v: error %d", since, e)
		}
		out, e := Lay(old, pieces...)
		if e != api.OK || !slices.Equal(out.Data, m.Data) {
			t.Fatalf("Lay of %v: other bytes, error %d", since, e)
		}
	}
}

// P5.3: Since tells no leaf that wasn't written behind Next, and none at once.
func TestNothingTooMuch(t *testing.T) {
	m, _ := New(4, "boot")
	m, _ = Store(m, base, 8, 1)
	m, epoch := Next(m)
	if got := Since(m, epoch); len(got) != 0 {
		t.Errorf("Since at once: %v", got)
	}
	m, _ = Store(m, base+508, 8, 1)
	if got := Since(m, epoch); !slices.Equal(got, []int{1, 2}) {
		t.Errorf("Since behind a store across leaves 1 and 2: %v", got)
	}
	if got := Since(m, 0); !slices.Equal(got, []int{0, 1, 2, 3}) {
		t.Errorf("Since 0: %v", got)
	}
}

// roomy: a memory whose lists have spare room behind them, and that room.
func roomy() (api.Ram, []byte, []uint64) {
	data, marks := []byte(strings.Repeat("data", 256)), []uint64{1, 2, 3, 4, 5, 6}
	return api.Ram{Data: data[:512], Marks: marks[:2], Epoch: 9}, data, marks
}

// Rule 3: what is handed in stays, its spare room too, and an answer shares nothing with it.
func TestHandedInStays(t *testing.T) {
	m, data, marks := roomy()
	leaves := []int{1, 0, 1, 7}[:3]
	pieces := []api.Piece{{Leaf: 0, Bytes: strings.Repeat("n", 256)}, {Leaf: 1, Bytes: strings.Repeat("m", 256)}, {Leaf: 7}}[:2]
	Check(m)
	Load(m, base, 8)
	Text(m, base, 512)
	Since(m, 0)
	got, _ := Pieces(m, leaves...)
	for i := range got {
		got[i] = api.Piece{}
	}
	stored, _ := Store(m, base+508, 4, 7)
	laid, _ := Lay(m, pieces...)
	next, _ := Next(m)
	for _, out := range []api.Ram{stored, laid, next, Copy(m)} {
		scribble(out)
	}
	if string(data) != strings.Repeat("data", 256) || !slices.Equal(marks, []uint64{1, 2, 3, 4, 5, 6}) {
		t.Error("the memory, or its spare room, is changed")
	}
	if !slices.Equal(leaves[:4], []int{1, 0, 1, 7}) {
		t.Error("the leaves are changed")
	}
	if pieces[0].Leaf != 0 || pieces[1].Leaf != 1 || pieces[0].Bytes != strings.Repeat("n", 256) || pieces[:3][2].Leaf != 7 {
		t.Error("the pieces are changed")
	}
}

// Rule 3: Put changes the bytes that it is to, and no spare room.
func TestPutLeavesSpareRoom(t *testing.T) {
	m, data, marks := roomy()
	if !Put(&m, base+510, "xy") || Put(&m, base+511, "xy") || Put(&m, base+512, "x") {
		t.Error("Put at the end")
	}
	want := strings.Repeat("data", 127) + "daxy" + strings.Repeat("data", 128)
	if string(data) != want || !slices.Equal(marks, []uint64{1, 9, 3, 4, 5, 6}) {
		t.Error("Put changed other bytes or marks")
	}
}

// P1: every call ends and none panics, whatever it is given; beside an error there is nothing.
func TestAnything(t *testing.T) {
	r := rand.New(rand.NewSource(9))
	number := func() int { return int(r.Uint64()>>r.Intn(64)) * (1 - 2*r.Intn(2)) }
	for range 3000 {
		m := memory(r, r.Intn(900), r.Intn(5), r.Uint64()>>r.Intn(64))
		at, size := base+uint64(number()), number()
		Check(m)
		Copy(m)
		Next(m)
		Since(m, r.Uint64()>>r.Intn(64))
		Bytes(r.Uint64(), size)
		New(number()%300, strings.Repeat("x", r.Intn(900)))
		Put(&m, at, strings.Repeat("x", r.Intn(900)))
		if n, e := Load(m, at, size); e != api.OK && n != 0 {
			t.Errorf("Load of %d at %x: %x beside an error", size, at, n)
		}
		if s, e := Text(m, at, size); e != api.OK && s != "" {
			t.Errorf("Text of %d at %x: %d bytes beside an error", size, at, len(s))
		}
		if out, e := Store(m, at, size, r.Uint64()); e != api.OK && !nothing(out) {
			t.Errorf("Store of %d at %x: a memory beside an error", size, at)
		}
		if list, e := Pieces(m, number(), number()%4); e != api.OK && len(list) != 0 {
			t.Error("Pieces beside an error")
		}
		if out, e := Lay(m, api.Piece{Leaf: number() % 5, Bytes: strings.Repeat("x", 255+r.Intn(3))}); e != api.OK && !nothing(out) {
			t.Error("Lay: a memory beside an error")
		}
	}
	for _, size := range sizes {
		if Bytes(math.MaxUint64, size) != strings.Repeat("\xff", max(0, size%9)) && size >= 0 && size <= 8 {
			t.Errorf("Bytes of %d", size)
		}
	}
}
