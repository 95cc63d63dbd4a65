package walk

import (
	"fmt"
	"math"
	"math/rand"
	"testing"

	"tandem/api"
	"tandem/csr"
	"tandem/ram"
)

const (
	all = 1<<64 - 1

	// The number of the memory's first page.
	firstPage = 0x80000

	// Satp of tables, without a page's number.
	tables = 8 << 60
)

// The low bits of entries, as a program for tables writes them.
const (
	bitV = 0x01
	bitR = 0x02
	bitW = 0x04
	bitX = 0x08
	bitU = 0x10
	bitG = 0x20
	bitA = 0x40
	bitD = 0x80

	anything = bitV | bitR | bitW | bitX | bitA | bitD
)

// has: has the number a bit at this place?
func has(n uint64, place int) bool { return n>>place%2 == 1 }

// digits: the bits of n from the place high to the place low, as a number.
func digits(n uint64, high, low int) (out uint64) {
	for place := high; place >= low; place-- {
		out *= 2
		if has(n, place) {
			out++
		}
	}
	return out
}

// eight: the number in the eight bytes at an address; false: they aren't all there.
func eight(mem api.Ram, at uint64) (n uint64, ok bool) {
	for i := range uint64(8) {
		place := at + i - 0x80000000
		if place >= uint64(len(mem.Data)) {
			return 0, false
		}
		n += uint64(mem.Data[place]) << (8 * i)
	}
	return n, true
}

// findBy: Find, as the chapter's words tell it.
func findBy(c api.Csr, m int, mem api.Ram, at uint64, kind int) (uint64, int) {
	if kind != 0 && kind != 1 && kind != 2 {
		return 0, 0
	}
	page, access := []int{12, 13, 15}[kind], []int{1, 5, 7}[kind]
	if kind > 0 && m == 3 && has(c.Mstatus, 17) {
		m = int(digits(c.Mstatus, 12, 11))
	}
	if m >= 3 || digits(c.Satp, 63, 60) != 8 {
		return at, -1
	}
	for place := 39; place < 64; place++ {
		if has(at, place) != has(at, 38) {
			return 0, page
		}
	}
	return findIn(c, m, mem, at, kind, 2, digits(c.Satp, 43, 0)*4096, page, access)
}

// findIn: where at lies by the table of a level.
func findIn(c api.Csr, m int, mem api.Ram, at uint64, kind, level int, table uint64, page, access int) (uint64, int) {
	if level < 0 {
		return 0, page
	}
	size := uint64(4096) << (9 * level)
	e, ok := eight(mem, table+8*(at/size%512))
	if !ok {
		return 0, access
	}
	if !has(e, 0) || !has(e, 1) && has(e, 2) || digits(e, 63, 54) != 0 {
		return 0, page
	}
	next := digits(e, 53, 10) * 4096
	if !has(e, 1) && !has(e, 3) {
		return findIn(c, m, mem, at, kind, level-1, next, page, access)
	}
	if next%size != 0 || !usable(c, m, e, kind) {
		return 0, page
	}
	return next + at%size, -1
}

// usable: may the page be used so, as the chapter's words tell it?
func usable(c api.Csr, m int, e uint64, kind int) bool {
	byMode := true
	if m == 0 {
		byMode = has(e, 4)
	} else if m == 1 {
		byMode = !has(e, 4) || kind != 0 && has(c.Mstatus, 18)
	}
	byKind := []bool{has(e, 3), has(e, 1) || has(e, 3) && has(c.Mstatus, 19), has(e, 2) && has(e, 7)}
	return byMode && has(e, 6) && byKind[kind]
}

// want: Find answers so.
func want(t *testing.T, c api.Csr, m int, mem api.Ram, at uint64, kind int, place uint64, cause int) {
	t.Helper()
	if p, n := Find(c, m, mem, at, kind); p != place || n != cause {
		t.Errorf("Find(Mstatus %x, Satp %x, mode %d, %x, kind %d): %x, %d, want %x, %d",
			c.Mstatus, c.Satp, m, at, kind, p, n, place, cause)
	}
}

// wantWords: Find answers as the chapter's words tell it.
func wantWords(t *testing.T, c api.Csr, m int, mem api.Ram, at uint64, kind int) {
	t.Helper()
	place, cause := findBy(c, m, mem, at, kind)
	want(t, c, m, mem, at, kind, place, cause)
}

// blank: a memory of all the pages that there may be.
func blank(t *testing.T) api.Ram {
	t.Helper()
	mem, e := ram.New(api.MaxLeaves, "")
	if e != api.OK {
		t.Fatal(e)
	}
	return mem
}

// lay: the entry, as number i of the table at the memory's page.
func lay(t *testing.T, mem api.Ram, page, i int, entry uint64) {
	t.Helper()
	if !ram.Put(&mem, 0x80000000+uint64(page)*4096+uint64(i)*8, ram.Bytes(entry, 8)) {
		t.Fatal(page, i)
	}
}

// entry: one that has the page's number and these low bits.
func entry(number, low uint64) uint64 { return number<<10 + low }

// leading: a memory whose tables at the pages 0, 1 and 2 lead by their entries 3, 4 and 5 to an entry of this level; and
// an address that chooses them.
func leading(t *testing.T, level int, last uint64) (api.Ram, uint64) {
	t.Helper()
	mem := blank(t)
	for page := range 2 - level {
		lay(t, mem, page, 3+page, entry(firstPage+uint64(page)+1, bitV))
	}
	lay(t, mem, 2-level, 5-level, last)
	return mem, 3<<30 | 4<<21 | 5<<12 | 0x678
}

// signed: the low 39 bits with their sign.
func signed(n uint64) uint64 { return uint64(int64(n<<25) >> 25) }

// kinds: the three.
func kinds() []int { return []int{0, 1, 2} }

// pageOf and accessOf: the causes by the kinds.
func pageOf(kind int) int   { return []int{12, 13, 15}[kind] }
func accessOf(kind int) int { return []int{1, 5, 7}[kind] }

// someModes: the modes, the number between them that is none, and others.
func someModes() []int {
	return []int{math.MinInt, -4, -3, -2, -1, 0, 1, 2, 3, 4, 5, 7, 257, math.MaxInt}
}

// someKinds: numbers that are no kind.
func someKinds() []int {
	return []int{math.MinInt, math.MinInt + 1, -1 << 32, -3, -2, -1, 3, 4, 5, 7, 8, 256, 1 << 32, 1<<32 + 1, math.MaxInt}
}

// statuses: the bits of Mstatus that count, off and on, with the others off and on.
func statuses() (list []uint64) {
	for n := range uint64(32) {
		bits := n&3<<11 | n>>2<<17
		list = append(list, bits, bits|^uint64(0xe1800))
	}
	return list
}

// P11.1: the chapter's example.
func TestExample(t *testing.T) {
	mem := blank(t)
	for _, at := range []uint64{0, 1, 0x80000000, 1 << 38, 1<<63 + 5, all} {
		for _, kind := range kinds() {
			want(t, api.Csr{Satp: tables + firstPage}, api.Boss, mem, at, kind, at, -1)
			for _, m := range someModes() {
				want(t, api.Csr{}, m, mem, at, kind, at, -1)
			}
		}
	}
}

// P11.1: pages of each level, each bit of its own, each kind and each mode, as written down by hand.
func TestKnown(t *testing.T) {
	for _, x := range []struct {
		low    uint64
		status uint64
		fine   string // by kinds: what User may, what Supervisor may
	}{
		{low: bitV | bitR | bitA, fine: "... .l."},
		{low: bitV | bitR | bitA | bitD, fine: "... .l."},
		{low: bitV | bitR | bitW | bitA, fine: "... .l."},
		{low: bitV | bitR | bitW | bitA | bitD, fine: "... .ls"},
		{low: bitV | bitX | bitA, fine: "... f.."},
		{low: bitV | bitX | bitA, status: 1 << 19, fine: "... fl."},
		{low: bitV | bitX | bitA, status: 1 << 18, fine: "... f.."},
		{low: bitV | bitR | bitX | bitA, fine: "... fl."},
		{low: bitV | bitW | bitX | bitA | bitD, fine: "... ..."},
		{low: anything, fine: "... fls"},
		{low: anything &^ bitA, fine: "... ..."},
		{low: anything &^ bitD, fine: "... fl."},
		{low: anything &^ bitV, fine: "... ..."},
		{low: anything | bitG, fine: "... fls"},
		{low: anything | 0x300, fine: "... fls"},
		{low: anything | bitU, fine: "fls ..."},
		{low: anything | bitU, status: 1 << 18, fine: "fls .ls"},
		{low: anything | bitU, status: 1 << 19, fine: "fls ..."},
		{low: bitV | bitR | bitA | bitU, fine: ".l. ..."},
		{low: bitV | bitR | bitA | bitU, status: 1 << 18, fine: ".l. .l."},
		{low: bitV | bitX | bitA | bitU, fine: "f.. ..."},
		{low: bitV | bitX | bitA | bitU, status: 1 << 18, fine: "f.. ..."},
		{low: bitV | bitX | bitA | bitU, status: 1 << 19, fine: "fl. ..."},
		{low: bitV | bitX | bitA | bitU, status: 3 << 18, fine: "fl. .l."},
		{low: bitV | bitR | bitW | bitA | bitD | bitU, fine: ".ls ..."},
		{low: bitV | bitR | bitW | bitA | bitD | bitU, status: 1 << 18, fine: ".ls .ls"},
	} {
		for level, place := range []uint64{0xabc0000678, 0xabc0005678, 0xabc0805678} {
			mem, at := leading(t, level, entry(0xabc0000, x.low))
			c := api.Csr{Satp: tables + firstPage, Mstatus: x.status}
			for _, m := range []int{api.User, api.Supervisor} {
				for _, kind := range kinds() {
					if x.fine[4*m+kind] == '.' {
						want(t, c, m, mem, at, kind, 0, pageOf(kind))
					} else {
						want(t, c, m, mem, at, kind, place, -1)
					}
				}
			}
		}
	}
}

// P11.1: a number that is no kind: 0 and 0, whatever else there is.
func TestNoKind(t *testing.T) {
	for level := range 3 {
		mem, at := leading(t, level, entry(0xabc0000, anything))
		for _, kind := range someKinds() {
			for _, m := range someModes() {
				for _, s := range statuses() {
					want(t, api.Csr{Satp: tables + firstPage, Mstatus: s}, m, mem, at, kind, 0, 0)
				}
				want(t, api.Csr{}, m, mem, at, kind, 0, 0)
				want(t, api.Csr{Satp: tables}, m, mem, 1<<40, kind, 0, 0)
				want(t, api.Csr{Satp: all, Mstatus: all}, m, api.Ram{}, at, kind, 0, 0)
			}
		}
	}
}

// P11.1: MPRV with each MPP: which mode counts, for a fetch too; a page of User's tells the modes apart.
func TestModeThatCounts(t *testing.T) {
	for level := range 3 {
		for low := range uint64(2) {
			mem, at := leading(t, level, entry(0xabc0000, anything+low*bitU))
			for _, m := range someModes() {
				for _, s := range statuses() {
					for _, kind := range kinds() {
						c := api.Csr{Satp: tables + firstPage, Mstatus: s}
						wantWords(t, c, m, mem, at, kind)
						wantWords(t, c, m, mem, at|1<<45, kind)
						c.Satp = firstPage
						want(t, c, m, mem, at, kind, at, -1)
					}
				}
			}
		}
	}
}

// P11.1: MPRV, as written down by hand.
func TestKnownMprv(t *testing.T) {
	mem, at := leading(t, 1, entry(0xabc0000, anything|bitU))
	place := uint64(0xabc0005678)
	for _, x := range []struct {
		m      int
		status uint64
		kind   int
		place  uint64
		cause  int
	}{
		{m: 3, status: 1<<17 | 0<<11, kind: 1, place: place, cause: -1},
		{m: 3, status: 1<<17 | 0<<11, kind: 2, place: place, cause: -1},
		{m: 3, status: 1<<17 | 0<<11, kind: 0, place: at, cause: -1},
		{m: 3, status: 1<<17 | 1<<11, kind: 1, cause: 13},
		{m: 3, status: 1<<17 | 1<<11, kind: 2, cause: 15},
		{m: 3, status: 1<<17 | 1<<11, kind: 0, place: at, cause: -1},
		{m: 3, status: 1<<18 | 1<<17 | 1<<11, kind: 2, place: place, cause: -1},
		{m: 3, status: 1<<17 | 3<<11, kind: 1, place: at, cause: -1},
		{m: 3, status: 0 << 11, kind: 1, place: at, cause: -1},
		{m: 1, status: 1<<17 | 0<<11, kind: 1, cause: 13},
		{m: 1, status: 1<<17 | 3<<11, kind: 1, cause: 13},
		{m: 0, status: 1<<17 | 1<<11, kind: 1, place: place, cause: -1},
		{m: 0, status: 1<<17 | 3<<11, kind: 2, place: place, cause: -1},
		{m: 4, status: 1<<17 | 1<<11, kind: 1, place: at, cause: -1},
	} {
		c := api.Csr{Satp: tables + firstPage, Mstatus: x.status}
		want(t, c, x.m, mem, at, x.kind, x.place, x.cause)
	}
}

// P11.1: Satp's bits 63:60 of 8 and of others; its bits 59:44 don't count, its bits 43:0 do, each.
func TestSatp(t *testing.T) {
	for level := range 3 {
		mem, at := leading(t, level, entry(0xabc0000, anything))
		place := []uint64{0xabc0000678, 0xabc0005678, 0xabc0805678}[level]
		for top := range uint64(16) {
			for _, middle := range []uint64{0, 1 << 44, 1 << 59, 0xffff << 44} {
				c := api.Csr{Satp: top<<60 + middle + firstPage}
				for _, kind := range kinds() {
					if top == 8 {
						want(t, c, api.Supervisor, mem, at, kind, place, -1)
					} else {
						want(t, c, api.Supervisor, mem, at, kind, at, -1)
					}
				}
			}
		}
		for bit := range 44 {
			for _, kind := range kinds() {
				c := api.Csr{Satp: tables + firstPage ^ 1<<bit}
				_, cause := findBy(c, api.Supervisor, mem, at, kind)
				if cause == -1 {
					t.Fatalf("bit %d isn't asked", bit)
				}
				wantWords(t, c, api.Supervisor, mem, at, kind)
			}
		}
	}
}

// P11.1: at's bits 63:38 all 0, all 1, and mixed; this goes ahead of what the tables say.
func TestSign(t *testing.T) {
	mem := blank(t)
	for i := range 512 {
		lay(t, mem, 0, i, entry(uint64(i)<<18, anything))
	}
	c := api.Csr{Satp: tables + firstPage}
	for _, kind := range kinds() {
		want(t, c, 1, mem, 1<<38-1, kind, 1<<38-1, -1)
		want(t, c, 1, mem, 0xffffffc000000000, kind, 0x4000000000, -1)
		want(t, c, 1, mem, all, kind, 1<<39-1, -1)
		want(t, c, 1, mem, 1<<38, kind, 0, pageOf(kind))
		want(t, c, 1, mem, 0xffffffbfffffffff, kind, 0, pageOf(kind))
		for _, at := range []uint64{0, 0x123456789, all &^ 0x123456789, all} {
			for place := 38; place < 64; place++ {
				want(t, c, 1, mem, at^1<<place, kind, 0, pageOf(kind))
				want(t, c, 1, api.Ram{}, at^1<<place, kind, 0, pageOf(kind))
				want(t, api.Csr{Satp: tables}, 1, mem, at^1<<place, kind, 0, pageOf(kind))
				for second := 38; second < place; second++ {
					want(t, c, 1, mem, at^1<<place^1<<second, kind, 0, pageOf(kind))
				}
			}
			want(t, c, 1, api.Ram{}, at, kind, 0, accessOf(kind))
		}
	}
}

// P11.1: which entry each bit of an address chooses, at each level: each entry leads elsewhere.
func TestChoice(t *testing.T) {
	for level := range 3 {
		mem := blank(t)
		for page := range 2 - level {
			for i := range 512 {
				lay(t, mem, page, i, entry(firstPage+uint64(page)+1, bitV))
			}
		}
		for i := range 512 {
			lay(t, mem, 2-level, i, entry(uint64(i^0x155)<<(9*level)|0x80000000000, anything))
		}
		c := api.Csr{Satp: tables + firstPage}
		low := uint64(1)<<(12+9*level) - 1
		for i := range uint64(512) {
			for _, others := range []uint64{0, 0x123456789a, 1<<38 - 1, all, all &^ 0x123456789a} {
				at := signed(others&^(511*(low+1)) | i*(low+1))
				place := (i^0x155)*(low+1) | 0x80000000000<<12 | at&low
				want(t, c, 1, mem, at, int(i)%3, place, -1)
			}
		}
	}
}

// P11.1: tables at the memory's first and last bytes, outside it, and across its end.
func TestTablePlaces(t *testing.T) {
	for _, kind := range kinds() {
		for _, size := range []int{0, 1, 7, 8, 9, 15, 16, 255, 256, 4088, 4095, 4096, 4097, 4103, 4104, 8191, 8192} {
			mem := api.Ram{Data: make([]byte, size)}
			for i := range mem.Data {
				if i%8 == 0 {
					mem.Data[i] = anything
				}
			}
			for _, number := range []uint64{0, 1, 0x7ffff, 0x80000, 0x80001, 0x80002, 0x80000 | 1<<43, 1<<44 - 1} {
				for i := range uint64(512) {
					at := signed(i<<30 | 0x123)
					c := api.Csr{Satp: tables + number}
					first := number*4096 + 8*i - 0x80000000
					if number < 0x80000 || first+8 > uint64(size) {
						want(t, c, 1, mem, at, kind, 0, accessOf(kind))
					} else {
						want(t, c, 1, mem, at, kind, 0x123, -1)
					}
				}
			}
		}
	}
}

// P11.1: tables of the lower levels at the memory's first and last bytes and outside it; a table that lies on another.
func TestLowerTablePlaces(t *testing.T) {
	c := api.Csr{Satp: tables + firstPage + 3}
	for level := range 2 {
		for _, number := range []uint64{0, 1, 0x7ffff, 0x80000, 0x80003, 0x8000f, 0x80010, 0x80000 | 1<<43, 1<<44 - 1} {
			for _, i := range []int{0, 1, 2, 255, 256, 510, 511} {
				mem := blank(t)
				last := uint64(7)<<30 | 0x123
				if level == 0 {
					lay(t, mem, 3, 7, entry(firstPage+4, bitV))
					lay(t, mem, 4, 8, entry(number, bitV))
					last |= 8<<21 | uint64(i)<<12
				} else {
					lay(t, mem, 3, 7, entry(number, bitV))
					last |= uint64(i) << 21
				}
				there := number >= firstPage && number < firstPage+16
				if there {
					lay(t, mem, int(number-firstPage), i, entry(0x7654000, anything))
				}
				for _, kind := range kinds() {
					if there {
						want(t, c, 1, mem, last, kind, 0x7654000123, -1)
					} else {
						want(t, c, 1, mem, last, kind, 0, accessOf(kind))
					}
				}
			}
		}
	}
}

// P11.1: one table that leads to itself is gone through at each level, and at level 0 no further.
func TestChain(t *testing.T) {
	mem := blank(t)
	lay(t, mem, 0, 9, entry(firstPage, bitV))
	c := api.Csr{Satp: tables + firstPage}
	for _, m := range []int{-1, 0, 1, 2} {
		for _, kind := range kinds() {
			want(t, c, m, mem, 9<<30|9<<21|9<<12|0x345, kind, 0, pageOf(kind))
		}
	}
	for level := range 3 {
		for _, number := range []uint64{0, 5, firstPage, firstPage + 5, 1<<44 - 1} {
			for _, low := range []uint64{bitV, bitV | bitU | bitG | bitA | bitD | 0x300} {
				mem, at := leading(t, level, entry(number, low))
				for _, m := range []int{-1, 0, 1, 2} {
					for _, kind := range kinds() {
						wantWords(t, c, m, mem, at, kind)
						if level == 0 {
							want(t, c, m, mem, at, kind, 0, pageOf(kind))
						}
					}
				}
			}
		}
	}
}

// P11.1: all low bits of an entry, at each level, for each kind and each mode, with bits 18 and 19 of Mstatus.
func TestLowBits(t *testing.T) {
	for level := range 3 {
		for low := range uint64(1024) {
			mem, at := leading(t, level, entry(0xabc0000, low))
			for s := range uint64(4) {
				for _, rest := range []uint64{0, ^uint64(0xe1800)} {
					c := api.Csr{Satp: tables + firstPage, Mstatus: s<<18 | rest}
					for _, m := range []int{-1, 0, 1, 2, 3} {
						for _, kind := range kinds() {
							wantWords(t, c, m, mem, at, kind)
						}
					}
				}
			}
		}
	}
}

// P11.1: each bit of an entry's number, and each above it, one and two at once: pages whose number isn't a multiple of
// their size, and entries that may not be.
func TestHighBits(t *testing.T) {
	c := api.Csr{Satp: tables + firstPage}
	for level := range 3 {
		for one := 10; one < 64; one++ {
			for two := one; two < 64; two++ {
				mem, at := leading(t, level, 1<<one|1<<two|anything)
				for _, kind := range kinds() {
					if two >= 54 || one < 10+9*level {
						want(t, c, 1, mem, at, kind, 0, pageOf(kind))
					} else {
						low := uint64(4096)<<(9*level) - 1
						want(t, c, 1, mem, at, kind, 1<<(one+2)|1<<(two+2)|at&low, -1)
					}
				}
			}
			mem, at := leading(t, level, 1<<one|bitV)
			for _, kind := range kinds() {
				wantWords(t, c, 1, mem, at, kind)
			}
		}
		most := (uint64(1)<<44 - 1) >> (9 * level) << (9 * level)
		mem, at := leading(t, level, entry(most, anything))
		low := uint64(4096)<<(9*level) - 1
		want(t, c, 1, mem, at|low, 1, 1<<56-1, -1)
		want(t, c, 1, mem, at&^low, 1, most*4096, -1)
	}
}

// P11.1: what may not be goes ahead of where it leads, and each table's entry ahead of those behind it.
func TestOrder(t *testing.T) {
	c := api.Csr{Satp: tables + firstPage}
	for level := range 3 {
		for _, kind := range kinds() {
			// A wrong entry that would lead outside the memory.
			for _, e := range []uint64{0, bitV | bitW, entry(5, 0), entry(5, bitV|bitW), entry(5, bitV) | 1<<54, entry(5, bitV) | 1<<63} {
				mem, at := leading(t, level, e)
				want(t, c, 1, mem, at, kind, 0, pageOf(kind))
			}
			if level > 0 {
				mem, at := leading(t, level, entry(5, bitV))
				want(t, c, 1, mem, at, kind, 0, accessOf(kind))
			}
		}
	}
}

// some: numbers of pages that tables and pages may have.
func some(r *rand.Rand) uint64 {
	switch r.Intn(8) {
	case 0:
		return r.Uint64() >> (20 + r.Intn(44))
	case 1:
		return uint64(r.Intn(1024)) << 18 & (1<<44 - 1)
	case 2:
		return uint64(r.Intn(1<<20)) << 9
	}
	return firstPage + uint64(r.Intn(16))
}

// someEntry: an entry that leads on, a page, or any number.
func someEntry(r *rand.Rand) uint64 {
	switch r.Intn(8) {
	case 0:
		return r.Uint64()
	case 1:
		return entry(some(r), r.Uint64()&1023)
	case 2, 3:
		return entry(some(r), anything&^(1<<r.Intn(8))|r.Uint64()&bitU)
	}
	return entry(some(r), bitV)
}

// chance: a memory full of tables.
func chance(r *rand.Rand, leaves int) api.Ram {
	mem, _ := ram.New(leaves, "")
	for i := range leaves * 32 {
		ram.Put(&mem, 0x80000000+uint64(i)*8, ram.Bytes(someEntry(r), 8))
	}
	switch r.Intn(4) {
	case 0:
		mem.Data = mem.Data[:len(mem.Data)-r.Intn(20)]
	case 1:
		mem.Marks = mem.Marks[:r.Intn(len(mem.Marks)+1)]
	}
	return mem
}

// chanceRegisters: right registers with tables, or any.
func chanceRegisters(r *rand.Rand) (c api.Csr) {
	if r.Intn(4) == 0 {
		return api.Csr{Mstatus: r.Uint64(), Satp: r.Uint64()}
	}
	c, _ = csr.Write(c, api.Boss, 0x300, r.Uint64())
	c, _ = csr.Write(c, api.Boss, 0x180, tables+some(r))
	return c
}

// chanceAddress: an address that may be, most often.
func chanceAddress(r *rand.Rand) uint64 {
	if r.Intn(8) == 0 {
		return r.Uint64()
	}
	return signed(r.Uint64())
}

// P11.1: memories, registers and modes of any kind, held against the chapter's words.
func TestByChance(t *testing.T) {
	r := rand.New(rand.NewSource(1110))
	causes := map[int]int{}
	for range 256 {
		mem := chance(r, 1+r.Intn(256))
		for range 1024 {
			c, m, at, kind := chanceRegisters(r), r.Intn(7)-2, chanceAddress(r), r.Intn(3)
			place, cause := findBy(c, m, mem, at, kind)
			want(t, c, m, mem, at, kind, place, cause)
			causes[cause]++
		}
	}
	for _, cause := range []int{-1, 1, 5, 7, 12, 13, 15} {
		if causes[cause] < 1000 {
			t.Errorf("cause %d: %d times", cause, causes[cause])
		}
	}
}

// P11.1: memories that may not be: Find goes by their bytes.
func TestWrongMemories(t *testing.T) {
	right, at := leading(t, 0, entry(0xabc0000, anything))
	for _, mem := range []api.Ram{
		{Data: right.Data},
		{Data: right.Data, Marks: make([]uint64, 1000)},
		{Data: right.Data, Marks: []uint64{all}},
		{Data: append(append([]byte{}, right.Data...), make([]byte, 100)...)},
		{Data: right.Data[:0x2030], Epoch: all},
	} {
		for _, kind := range kinds() {
			want(t, api.Csr{Satp: tables + firstPage}, 1, mem, at, kind, 0xabc0000678, -1)
		}
	}
	for _, mem := range []api.Ram{{}, {Data: []byte{}}, {Marks: right.Marks}, {Data: right.Data[:0x202f]}, {Data: right.Data[:3]}} {
		for _, kind := range kinds() {
			want(t, api.Csr{Satp: tables + firstPage}, 1, mem, at, kind, 0, accessOf(kind))
		}
	}
	// A memory that is longer than one may be, with a table behind the last byte of one that may be.
	long := api.Ram{Data: make([]byte, 0x20000)}
	lay(t, long, 0x1f, 511, entry(0xabc0000, anything))
	want(t, api.Csr{Satp: tables + firstPage + 0x1f}, 1, long, all, 1, 0xabc0000000+1<<30-1, -1)
}

// wantLikewise: two addresses that differ in their low 12 bits alone are found likewise.
func wantLikewise(t *testing.T, c api.Csr, m int, mem api.Ram, at, other uint64, kind int) int {
	t.Helper()
	other = at&^0xfff | other&0xfff
	p, n := Find(c, m, mem, at, kind)
	q, k := Find(c, m, mem, other, kind)
	if n != k || n == -1 && p^q != at^other || n != -1 && (p != 0 || q != 0) {
		t.Errorf("Find(Mstatus %x, Satp %x, mode %d, kind %d): %x at %x, %d; %x at %x, %d",
			c.Mstatus, c.Satp, m, kind, at, p, n, other, q, k)
	}
	return n
}

// P11.2: two addresses that differ in their low 12 bits alone, at pages of each level, and at any.
func TestInOnePage(t *testing.T) {
	c := api.Csr{Satp: tables + firstPage}
	for level := range 3 {
		for _, low := range []uint64{anything, bitV | bitR | bitA, bitV | bitX | bitA, 0} {
			mem, at := leading(t, level, entry(0xabc0000, low))
			for other := range uint64(4096) {
				for _, kind := range kinds() {
					wantLikewise(t, c, 1, mem, at, other, kind)
				}
			}
		}
	}
	r := rand.New(rand.NewSource(1120))
	found := 0
	for range 64 {
		mem := chance(r, 256)
		for range 1024 {
			if wantLikewise(t, chanceRegisters(r), r.Intn(7)-2, mem, chanceAddress(r), r.Uint64(), r.Intn(3)) == -1 {
				found++
			}
		}
	}
	if found < 10000 {
		t.Errorf("found %d times", found)
	}
}

// P11.3: where a store is found, a load is, at the same address.
func TestStoreIsLoad(t *testing.T) {
	stores := 0
	check := func(c api.Csr, m int, mem api.Ram, at uint64) {
		t.Helper()
		p, n := Find(c, m, mem, at, 2)
		if n != -1 {
			return
		}
		stores++
		want(t, c, m, mem, at, 1, p, -1)
	}
	for level := range 3 {
		for low := range uint64(256) {
			mem, at := leading(t, level, entry(0xabc0000, low))
			for _, s := range statuses() {
				for _, m := range someModes() {
					check(api.Csr{Satp: tables + firstPage, Mstatus: s}, m, mem, at)
				}
			}
		}
	}
	r := rand.New(rand.NewSource(1130))
	for range 64 {
		mem := chance(r, 256)
		for range 1024 {
			check(chanceRegisters(r), r.Intn(7)-2, mem, chanceAddress(r))
		}
	}
	if stores < 10000 {
		t.Errorf("%d stores", stores)
	}
}

// P1: the same calls answer the same, in the other order too, and the memory stays as it was.
func TestAsksNothingElse(t *testing.T) {
	r := rand.New(rand.NewSource(1101))
	mem := chance(r, 256)
	before := fmt.Sprint(mem)
	type asked struct {
		c       api.Csr
		m, kind int
		at      uint64
	}
	var list []asked
	var told []string
	for range 1 << 12 {
		a := asked{c: chanceRegisters(r), m: r.Intn(7) - 2, kind: r.Intn(5) - 1, at: chanceAddress(r)}
		place, cause := Find(a.c, a.m, mem, a.at, a.kind)
		list, told = append(list, a), append(told, fmt.Sprint(place, cause))
	}
	for i := len(list) - 1; i >= 0; i-- {
		a := list[i]
		place, cause := Find(a.c, a.m, mem, a.at, a.kind)
		if again := fmt.Sprint(place, cause); again != told[i] {
			t.Errorf("%+v: %s, then %s", a, told[i], again)
		}
	}
	if fmt.Sprint(mem) != before {
		t.Error("the memory changed")
	}
}

// P1: numbers of any kind, at all arguments.
func TestAnything(t *testing.T) {
	edges := []uint64{0, 1, 0x80000000, tables, tables + firstPage, tables + 1<<44 - 1, 1 << 38, 1<<38 - 1, 1 << 63, all - 1, all}
	memories := []api.Ram{{}, {Data: []byte{1}}, {Data: []byte{0xcf, 0, 0, 0, 0, 0, 0, 0}}, blank(t)}
	for _, mem := range memories {
		for _, satp := range edges {
			for _, status := range edges {
				for _, at := range edges {
					for _, m := range someModes() {
						for _, kind := range append(kinds(), someKinds()...) {
							wantWords(t, api.Csr{Satp: satp, Mstatus: status}, m, mem, at, kind)
						}
					}
				}
			}
		}
	}
}
