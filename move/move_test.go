package move

import (
	"fmt"
	"math"
	"math/rand"
	"slices"
	"strings"
	"testing"

	"tandem/api"
	"tandem/image"
	"tandem/machine"
)

// P18.1: the chapter's example, all of it by hand: a program that writes into the second leaf of two.
func TestExample(t *testing.T) {
	noughts := strings.Repeat("\x00", 256)
	first := once() + noughts[16:]
	second := "M" + noughts[1:]
	m, _ := machine.New(once(), 2)
	begun := begin(m)
	old := m
	old.Ram = api.Ram{Data: []byte(first + noughts), Marks: []uint64{0, 0}, Epoch: 1}
	wantLike(t, "Begin", begun, answer{
		M:      old,
		V:      api.Moving{Round: 1, Since: 1, Ram: api.Ram{Data: make([]byte, 512), Marks: []uint64{0, 0}}},
		Pieces: []api.Piece{{Leaf: 0, Bytes: first}, {Leaf: 1, Bytes: noughts}},
	})
	taken := take(begun.V, begun.Pieces...)
	wantLike(t, "Take", taken, answer{V: api.Moving{Round: 1, Since: 1, Ram: api.Ram{Data: []byte(first + noughts), Marks: []uint64{0, 0}}}})
	ran, _ := machine.Run(begun.M, 3)
	atRest := rest(ran, taken.V)
	head, _ := image.Head(ran)
	last := []api.Piece{{Leaf: 1, Bytes: second}}
	wantLike(t, "Rest", atRest, answer{Head: head, Pieces: last, Digest: 0x2bcebc5b7b80dcb9})
	landed := land(taken.V, atRest.Head, last, 0x2bcebc5b7b80dcb9)
	there := ran
	there.Ram = api.Ram{Data: []byte(first + second), Marks: []uint64{0, 0}}
	wantLike(t, "Land", landed, answer{M: there})
	next := round(ran, taken.V)
	there.Ram.Marks, there.Ram.Epoch = []uint64{0, 1}, 2
	wantLike(t, "Round", next, answer{M: there, V: api.Moving{Round: 2, Since: 2, Ram: taken.V.Ram}, Pieces: last})
	gone, _ := machine.Run(next.M, 10)
	if a := rest(gone, next.V); a.Digest != 0xfbf5776bed45fcc7 || len(a.Pieces) != 0 || a.Err != 0 {
		t.Errorf("Rest behind a Round: %x, leaves %q, error %d", a.Digest, leaves(a.Pieces), a.Err)
	}
}

// A known course: a program, its lives, and the leaves that are dirty behind each, by hand.
type known struct {
	what, boot string
	leaves     int
	lives      []life
	dirty      string
}

func knowns() []known {
	return []known{
		{"nothing is written", code(still), 2, []life{steps(0), steps(1), steps(100)}, " |  | "},
		{"no step", many(), 6, []life{steps(0)}, ""},
		{"once", once(), 2, []life{steps(2), steps(1), steps(10)}, " | 1 | "},
		{"one leaf", one(), 2, []life{steps(10), steps(10), steps(2), steps(1), steps(3)}, "1 | 1 | 1 |  | 1"},
		{"two leaves by one store", across(), 4, []life{steps(10), steps(10)}, "1 2 | 1 2"},
		{"an atomic operation", swaps(), 4, []life{steps(3), steps(1), steps(2), steps(1)}, " | 2 |  | 2"},
		{"many leaves", many(), 6, []life{steps(6), steps(6), steps(10), steps(4), steps(100)}, "1 | 2 | 3 4 5 |  | 1 2 3 4 5"},
		{"256 leaves", many(), 256, []life{steps(11), steps(996)}, "1 2 | " + through(3, 251)},
		{"bytes that are kept", keeps(), 3, []life{serial(10, "AB"), steps(30), steps(30), serial(9, "C"), serial(9, "D")}, " | 1 |  |  | 1"},
		{"bytes that are sent back", echo(), 2, []life{serial(10, "AB"), steps(30), serial(1, "C"), steps(9)}, " |  |  | "},
		{"a sector that is read", diskProgram(), 2, []life{steps(8), steps(4), steps(1), steps(20)}, " |  | 1 | "},
		{"frames that are laid", mirror(), 3, []life{frame(10, pattern(64, 1)), steps(20), steps(20), frame(1, "two"), steps(9)}, " | 1 |  |  | 1"},
		{"a clock that interrupts", ticks(), 2, []life{steps(21), steps(60), steps(7)}, " |  | "},
		{"a line that interrupts", called(), 2, []life{serial(30, "x"), steps(1), steps(1), steps(1), steps(9)}, " |  |  |  | "},
	}
}

// through: the numbers from first to last, one a word.
func through(first, last int) string {
	var pieces []api.Piece
	for n := first; n <= last; n++ {
		pieces = append(pieces, api.Piece{Leaf: n})
	}
	return leaves(pieces)
}

// P18.1, P18.2, P18.3: moves with known dirty leaves; behind each round, and at the end, a machine lands that goes on.
func TestKnownMoves(t *testing.T) {
	for _, x := range knowns() {
		m, _ := machine.New(x.boot, x.leaves)
		c := setOff(t, x.what, m)
		var dirty []string
		for _, l := range x.lives {
			c.live(l)
			a := c.rest()
			c.land()
			pieces := c.round()
			if !slices.Equal(a.Pieces, pieces) {
				t.Errorf("%s: Rest tells leaves %q, Round %q", x.what, leaves(a.Pieces), leaves(pieces))
			}
			dirty = append(dirty, leaves(pieces))
		}
		if got := strings.Join(dirty, " | "); got != x.dirty {
			t.Errorf("%s: dirty are %q, want %q", x.what, got, x.dirty)
		}
		if a := c.rest(); len(a.Pieces) != 0 {
			t.Errorf("%s: Rest behind a Round: leaves %q", x.what, leaves(a.Pieces))
		}
		c.onward(c.land(), append(x.lives, steps(500))...)
	}
}

// P18.2: any number of rounds, the source running and getting inputs of both devices ahead of each.
func TestRounds(t *testing.T) {
	r := rand.New(rand.NewSource(1801))
	records := 0
	for _, name := range names() {
		for rounds := range 8 {
			m, _ := machine.New(programs()[name], 2+rounds%3)
			c := setOff(t, fmt.Sprintf("%s, %d rounds", name, rounds), m)
			for range rounds {
				c.live(life{r.Intn(60), anyInputs(r, r.Intn(3))})
				c.round()
			}
			c.live(life{r.Intn(60), anyInputs(r, r.Intn(3))})
			landed := c.land()
			if c.v.Round != 1+rounds {
				t.Errorf("%s: round %d", c.what, c.v.Round)
			}
			c.onward(landed, life{0, anyInputs(r, 3)}, steps(300), life{10, anyInputs(r, 3)})
			records += len(c.source.Outs)
		}
	}
	if records < 500 {
		t.Errorf("%d records alone", records)
	}
}

// P18.2, P18.3: machines by chance, right ones of all kinds, with any epoch.
func TestRoundsByChance(t *testing.T) {
	r := rand.New(rand.NewSource(1802))
	dirty, rounds := 0, 0
	for n := range 150 {
		m := anyMachine(r)
		c := setOff(t, fmt.Sprint("machine ", n), m)
		for range r.Intn(8) {
			c.live(life{r.Intn(40), anyInputs(r, r.Intn(2))})
			dirty += len(c.round())
			rounds++
		}
		c.live(life{r.Intn(40), anyInputs(r, r.Intn(2))})
		c.onward(c.land(), life{0, anyInputs(r, 4)}, steps(200))
	}
	if dirty < rounds {
		t.Errorf("%d leaves in %d rounds alone", dirty, rounds)
	}
}

// P18.2: what landed is moved on, and what landed from there too.
func TestMovedOn(t *testing.T) {
	for _, name := range names() {
		m, _ := machine.New(programs()[name], 3)
		for n := range 3 {
			c := setOff(t, fmt.Sprintf("%s, move %d", name, n), m)
			c.live(serial(20, "moved on"))
			c.round()
			c.live(frame(30, "a frame"))
			m = c.land()
			c.onward(m, steps(100))
		}
	}
}

// P18.1: right machines at the edges of what may be, with moves that may go on with them in each round.
func TestRights(t *testing.T) {
	for what, m := range rights() {
		wantBegin(t, what, m)
		leaves := len(m.Ram.Marks)
		for n := 1; n <= 8; n++ {
			v := moving(leaves)
			v.Round = n
			what := fmt.Sprintf("%s, round %d", what, n)
			a := wantRound(t, what, m, v)
			b := wantRest(t, what, m, v)
			if b.Err != 0 || (a.Err == 0) != (n < 8) {
				t.Errorf("%s: errors %d and %d", what, a.Err, b.Err)
			}
		}
		c := setOff(t, what, m)
		c.land()
		c.live(steps(20))
		c.round()
		c.onward(c.land())
	}
}

// P18.1: eight rounds at most, Begin's being the first; at the eighth one Rest and Land go on.
func TestEightRounds(t *testing.T) {
	m, _ := machine.New(many(), 4)
	c := setOff(t, "eight rounds", m)
	for n := 2; n <= 8; n++ {
		c.live(steps(7))
		c.round()
		if c.v.Round != n || c.v.Since != uint64(n) || c.source.Ram.Epoch != uint64(n) {
			t.Errorf("round %d: kept are %d and %d, the epoch is %d", n, c.v.Round, c.v.Since, c.source.Ram.Epoch)
		}
	}
	c.live(steps(7))
	for range 3 {
		wantErr(t, "the ninth round", wantRound(t, "the ninth round", c.source, c.v), api.ErrMove)
	}
	c.onward(c.land(), steps(50))
	c.again()
	if c.v.Round != 1 || c.v.Since != 9 {
		t.Errorf("begun anew: kept are %d and %d", c.v.Round, c.v.Since)
	}
	c.live(steps(7))
	c.round()
	c.land()
}

// P18.1: the first epochs and the last ones; from 2^62 on none comes behind.
func TestEpochs(t *testing.T) {
	const last = 1 << 62
	for was, now := range map[uint64]uint64{
		0: 1, 1: 2, 9: 10, last - 2: last - 1, last - 1: last, last: last, last + 1: last + 1, 1 << 63: 1 << 63, all - 1: all - 1, all: all,
	} {
		m, _ := machine.New(one(), 3)
		m.Ram.Epoch = was
		m.Ram.Marks = []uint64{0, was, was}
		what := fmt.Sprintf("epoch %x", was)
		a := wantBegin(t, what, m)
		b := wantRound(t, what, m, moving(3))
		if a.M.Ram.Epoch != now || a.V.Since != now || b.M.Ram.Epoch != now || b.V.Since != now || b.V.Round != 4 {
			t.Errorf("%s: %x and %x, %x and %x, want %x", what, a.M.Ram.Epoch, a.V.Since, b.M.Ram.Epoch, b.V.Since, now)
		}
		c := setOff(t, what, m)
		for range 4 {
			c.live(steps(5))
			c.round()
		}
		c.onward(c.land())
	}
}

// P18.1: dirty are the leaves whose mark isn't below Since, whatever that is.
func TestSince(t *testing.T) {
	m := busy("", 5)
	m.Ram.Marks = []uint64{4, 0, 9, 5, 4}
	for since, want := range map[uint64]string{
		0: "0 1 2 3 4", 1: "0 2 3 4", 4: "0 2 3 4", 5: "2 3", 6: "2", 9: "2", 10: "", 1 << 62: "", 1 << 63: "", all: "",
	} {
		v := moving(5)
		v.Since = since
		a := wantRound(t, fmt.Sprint("since ", since), m, v)
		b := wantRest(t, fmt.Sprint("since ", since), m, v)
		if leaves(a.Pieces) != want || leaves(b.Pieces) != want || a.Err != 0 || b.Err != 0 {
			t.Errorf("since %d: leaves %q and %q, want %q", since, leaves(a.Pieces), leaves(b.Pieces), want)
		}
		if a.V.Since != 10 || a.V.Round != 4 {
			t.Errorf("since %d: kept are %d and %d", since, a.V.Since, a.V.Round)
		}
	}
	m.Ram.Marks = []uint64{all, all - 1, 0, all, 1}
	m.Ram.Epoch = all
	v := moving(5)
	v.Since = all
	if a := wantRest(t, "since the last epoch", m, v); leaves(a.Pieces) != "0 3" {
		t.Errorf("since the last epoch: leaves %q", leaves(a.Pieces))
	}
}

// P18.1 (chapter 16's Check of the source): machines that may not be, first of all errors.
func TestWrongMachines(t *testing.T) {
	for _, x := range wrongs() {
		m := busy("", 3)
		x.change(&m)
		wantErr(t, x.what, wantBegin(t, x.what, m), x.err)
		late := moving(3)
		late.Round = 8
		tries := append(stucks(), stuck{"a move that may go on", moving(3)}, stuck{"the eighth round", late})
		for _, y := range tries {
			what := x.what + " and " + y.what
			wantErr(t, what, wantRound(t, what, m, y.v), x.err)
			wantErr(t, what, wantRest(t, what, m, y.v), x.err)
		}
		// Of two wrong things of a machine the memory is told first.
		m.Ram.Marks = []uint64{0, 1, m.Ram.Epoch + 1}
		wantErr(t, x.what+" and a late mark", wantBegin(t, x.what, m), 50)
		wantErr(t, x.what+" and a late mark", wantRound(t, x.what, m, moving(3)), 50)
		wantErr(t, x.what+" and a late mark", wantRest(t, x.what, m, moving(3)), 50)
	}
	wantErr(t, "no machine", wantBegin(t, "no machine", api.Machine{}), 50)
	wantErr(t, "no machine", wantRound(t, "no machine", api.Machine{}, api.Moving{}), 50)
	wantErr(t, "no machine", wantRest(t, "no machine", api.Machine{}, api.Moving{}), 50)
}

// P18.1 (ErrMove): moves that may not go on with a machine, and those just beside them.
func TestWrongMoves(t *testing.T) {
	m := busy("", 3)
	for _, x := range stucks() {
		wantErr(t, x.what, wantRound(t, x.what, m, x.v), api.ErrMove)
		wantErr(t, x.what, wantRest(t, x.what, m, x.v), api.ErrMove)
	}
	v := moving(3)
	v.Round = 8
	wantErr(t, "the eighth round", wantRound(t, "the eighth round", m, v), api.ErrMove)
	if a := wantRest(t, "the eighth round", m, v); a.Err != 0 || a.Head == "" || a.Digest == 0 {
		t.Errorf("the eighth round: Rest: error %d", a.Err)
	}
	for _, n := range []int{1, 2, 255, 256} {
		m := busy("", n)
		for _, k := range []int{1, 2, 3, 255, 256} {
			what := fmt.Sprintf("a machine of %d leaves, a move of %d", n, k)
			a := wantRound(t, what, m, moving(k))
			b := wantRest(t, what, m, moving(k))
			if (a.Err == 0) != (n == k) || (b.Err == 0) != (n == k) {
				t.Errorf("%s: errors %d and %d", what, a.Err, b.Err)
			}
		}
	}
	v = moving(3)
	v.Ram.Marks[2] = v.Ram.Epoch
	if a := wantRest(t, "a mark of now", m, v); a.Err != 0 {
		t.Errorf("a mark of now: error %d", a.Err)
	}
}

// wrongPieces: by the leaf, by too few or too many bytes; of a target of three leaves.
func wrongPieces() map[string]api.Piece {
	list := map[string]api.Piece{}
	for _, leaf := range []int{-1, 3, 4, 255, 256, math.MinInt, math.MaxInt, math.MaxInt/256 + 1, 1 << 56, -1 << 56} {
		list[fmt.Sprint("leaf ", leaf)] = api.Piece{Leaf: leaf, Bytes: pattern(256, 1)}
	}
	for _, size := range []int{0, 1, 255, 257, 512, 1 << 17} {
		list[fmt.Sprint(size, " bytes")] = api.Piece{Leaf: 1, Bytes: pattern(size, 1)}
	}
	return list
}

// P18.1 (chapter 5's of Lay): pieces that may not be laid, first, last or alone; then nothing is taken, and nothing lands,
// whatever head and digest are.
func TestWrongPieces(t *testing.T) {
	m := busy("", 3)
	head, _ := image.Head(m)
	n, _ := image.Digest(m)
	for what, p := range wrongPieces() {
		good := dirtyBy(m.Ram, 0)
		for _, list := range [][]api.Piece{{p}, append([]api.Piece{p}, good...), append(good, p), append(good[:2:2], p, good[2])} {
			wantErr(t, what, wantTake(t, what, moving(3), list...), api.ErrRam)
			for _, head := range []string{head, "", head + "x"} {
				for _, digest := range []uint64{n, n + 1, 0} {
					wantErr(t, what, wantLand(t, what, moving(3), head, list, digest), api.ErrRam)
				}
			}
		}
	}
	wantErr(t, "a piece for no move", wantTake(t, "no move", api.Moving{}, api.Piece{Bytes: pattern(256, 1)}), api.ErrRam)
	wantErr(t, "a piece of nothing", wantTake(t, "a piece of nothing", moving(3), api.Piece{}), api.ErrRam)
}

// P18.1: Take asks nothing of the move but its leaves; the last piece of a leaf stays.
func TestTake(t *testing.T) {
	a, b, c := pattern(256, 11), pattern(256, 12), pattern(256, 13)
	v := api.Moving{Round: 3, Since: 7, Ram: api.Ram{Data: []byte(a + a + a), Marks: []uint64{1, 2, 3}, Epoch: 5}}
	got := wantTake(t, "three pieces", v, api.Piece{Leaf: 2, Bytes: b}, api.Piece{Leaf: 0, Bytes: c}, api.Piece{Leaf: 2, Bytes: c})
	want := api.Moving{Round: 3, Since: 7, Ram: api.Ram{Data: []byte(c + a + c), Marks: []uint64{5, 2, 5}, Epoch: 5}}
	wantLike(t, "three pieces", got, answer{V: want})
	wantLike(t, "none", wantTake(t, "none", v), answer{V: v})
	wantLike(t, "none of no move", wantTake(t, "none of no move", api.Moving{}), answer{})
	for _, x := range stucks() {
		x.v.Since = all
		wantTake(t, x.what, x.v)
		if a := wantTake(t, x.what, x.v, api.Piece{Leaf: 0, Bytes: b}); (a.Err == 0) != (len(x.v.Ram.Data) >= 256) {
			t.Errorf("%s: Take: error %d", x.what, a.Err)
		}
	}
	odd := api.Moving{Round: -4, Ram: api.Ram{Data: []byte(pattern(600, 1)), Marks: []uint64{9}, Epoch: 2}}
	got = wantTake(t, "a memory that may not be", odd, api.Piece{Leaf: 1, Bytes: b})
	if got.Err != 0 || string(got.V.Ram.Data[256:512]) != b || len(got.V.Ram.Data) != 600 || got.V.Ram.Marks[0] != 9 || got.V.Round != -4 {
		t.Errorf("a memory that may not be: error %d", got.Err)
	}
	wantErr(t, "a part of a leaf", wantTake(t, "a part of a leaf", odd, api.Piece{Leaf: 2, Bytes: b}), api.ErrRam)
}

// landing: what a machine's Land is handed, all its pieces at the end.
func landing(t *testing.T, m api.Machine) (v api.Moving, a answer) {
	t.Helper()
	begun := begin(m)
	begun.V.Since = 0
	a = rest(begun.M, begun.V)
	if a.Err != 0 || len(a.Pieces) != len(m.Ram.Marks) {
		t.Fatalf("Rest: error %d, leaves %q", a.Err, leaves(a.Pieces))
	}
	return begun.V, a
}

// P18.1 (chapter 17's of Join): heads that no machine has, and targets whose memory is none; ahead of another digest.
func TestWrongHeads(t *testing.T) {
	v, a := landing(t, busy("", 3))
	for what, head := range map[string]string{
		"no head": "", "a byte less": a.Head[:len(a.Head)-1], "a byte more": a.Head + "\x00", "a field of another length": a.Head[:4] + "\x07" + a.Head[5:],
		"twice": a.Head + a.Head, "register 0": a.Head[:8] + "\x01" + a.Head[9:], "noughts": strings.Repeat("\x00", len(a.Head)),
		"the machine's bytes": bytesOf(t, busy("", 3)), "no fields' bytes": pattern(300, 1), "too many bytes": strings.Repeat("\x00", 1<<20+1),
	} {
		for _, digest := range []uint64{a.Digest, a.Digest + 1, 0} {
			wantErr(t, what, wantLand(t, what, v, head, a.Pieces, digest), api.ErrImage)
		}
	}
	for _, size := range []int{0, 1, 255, 257, 767, 769, 65536 + 256} {
		v.Ram.Data = make([]byte, size)
		what := fmt.Sprint("a target of ", size, " bytes")
		for _, digest := range []uint64{a.Digest, 0} {
			wantErr(t, what, wantLand(t, what, v, a.Head, nil, digest), api.ErrImage)
			wantErr(t, what, wantLand(t, what, v, "", nil, digest), api.ErrImage)
			wantErr(t, what, wantLand(t, what, v, "", []api.Piece{{Leaf: -1}}, digest), api.ErrRam)
		}
	}
}

// P18.1, P18.4: other digests.
func TestWrongDigests(t *testing.T) {
	m := busy("", 3)
	v, a := landing(t, m)
	refuse := func(what string, n uint64) {
		t.Helper()
		wantErr(t, what, wantLand(t, what, v, a.Head, a.Pieces, n), api.ErrMove)
	}
	for bit := range 64 {
		refuse(fmt.Sprint("bit ", bit), a.Digest^1<<bit)
	}
	for _, n := range []uint64{0, 1, a.Digest + 1, a.Digest - 1, -a.Digest, ^a.Digest, all} {
		refuse("another number", n)
	}
	other := twin(m)
	other.Count++
	n, _ := image.Digest(other)
	refuse("another machine's", n)
	if got := wantLand(t, "its own", v, a.Head, a.Pieces, a.Digest); bytesOf(t, got.M) != bytesOf(t, m) {
		t.Error("its own digest: other bytes")
	}
}

// P18.1: Land asks nothing of a move but its target's bytes.
func TestLandAnyMove(t *testing.T) {
	m := busy("", 3)
	_, a := landing(t, m)
	for _, change := range []func(v *api.Moving){
		func(v *api.Moving) { v.Round = 0 }, func(v *api.Moving) { v.Round = 9 }, func(v *api.Moving) { v.Round = -1 },
		func(v *api.Moving) { v.Since = all }, func(v *api.Moving) { v.Ram.Marks = nil }, func(v *api.Moving) { v.Ram.Epoch = all },
		func(v *api.Moving) { v.Ram.Marks = []uint64{all, all, all, all, all} },
	} {
		v := moving(3)
		change(&v)
		got := wantLand(t, "any move", v, a.Head, a.Pieces, a.Digest)
		want := twin(m)
		want.Outs, want.Ram.Marks, want.Ram.Epoch = nil, make([]uint64, 3), 0
		wantLike(t, "any move", got, answer{M: want})
	}
}

// P18.4: leaves that the target hasn't got; a leaf of noughts may be left out, since it has noughts at first.
func TestLeftOut(t *testing.T) {
	m := busy("", 5)
	copy(m.Ram.Data[512:768], make([]byte, 256))
	begun := begin(m)
	last := rest(begun.M, begun.V)
	if len(last.Pieces) != 0 {
		t.Fatalf("dirty behind Begin: %q", leaves(last.Pieces))
	}
	for set := range 1 << 5 {
		var list []api.Piece
		for n, p := range begun.Pieces {
			if set>>n&1 == 1 {
				list = append(list, p)
			}
		}
		what := fmt.Sprintf("of all leaves %q", leaves(list))
		taken := wantTake(t, what, begun.V, list...)
		now := wantLand(t, what, taken.V, last.Head, nil, last.Digest)
		late := wantLand(t, what+" at the end", begun.V, last.Head, list, last.Digest)
		wantLike(t, what, now, late)
		if set|4 != 31 {
			wantErr(t, what, now, api.ErrMove)
			continue
		}
		if now.Err != 0 || bytesOf(t, now.M) != bytesOf(t, m) {
			t.Errorf("%s: error %d", what, now.Err)
		}
	}
}

// P18.4: each bit of a piece, and pieces that have changed places.
func TestOtherPieces(t *testing.T) {
	m := busy("", 2)
	v, a := landing(t, m)
	for n := range a.Pieces {
		for bit := range 2048 {
			list := slices.Clone(a.Pieces)
			b := []byte(list[n].Bytes)
			b[bit/8] ^= 1 << (bit % 8)
			list[n].Bytes = string(b)
			if got := land(v, a.Head, list, a.Digest); got.Err != api.ErrMove {
				t.Errorf("leaf %d, bit %d: error %d", n, bit, got.Err)
			}
		}
	}
	list := slices.Clone(a.Pieces)
	list[0].Leaf, list[1].Leaf = 1, 0
	wantErr(t, "changed places", wantLand(t, "changed places", v, a.Head, list, a.Digest), api.ErrMove)
	list[0], list[1] = a.Pieces[1], a.Pieces[0]
	if got := wantLand(t, "another order", v, a.Head, list, a.Digest); got.Err != 0 {
		t.Errorf("another order: error %d", got.Err)
	}
}

// P18.4: a round's pieces that are lost: nothing lands till its leaves are sent again.
func TestLostRound(t *testing.T) {
	for _, x := range []struct {
		what, boot string
		again      bool
	}{{"once", once(), false}, {"one", one(), true}, {"many", many(), true}} {
		m, _ := machine.New(x.boot, 4)
		c := setOff(t, x.what, m)
		c.live(steps(40))
		if len(c.lostRound()) == 0 {
			t.Fatalf("%s: nothing is lost", x.what)
		}
		a := c.rest()
		wantErr(t, x.what, wantLand(t, x.what, c.v, a.Head, a.Pieces, a.Digest), api.ErrMove)
		c.live(steps(40))
		c.round()
		a = c.rest()
		got := wantLand(t, x.what, c.v, a.Head, a.Pieces, a.Digest)
		if (got.Err == 0) != x.again {
			t.Errorf("%s: behind another round: error %d", x.what, got.Err)
		}
		c.live(steps(40))
		stale := a
		a = c.rest()
		for _, part := range []answer{
			{Head: stale.Head, Pieces: a.Pieces, Digest: a.Digest}, {Head: a.Head, Pieces: a.Pieces, Digest: stale.Digest},
		} {
			wantErr(t, x.what+": stale", wantLand(t, x.what, c.v, part.Head, part.Pieces, part.Digest), api.ErrMove)
		}
		c.again()
		c.onward(c.land(), steps(40))
	}
}

// P18.4: what has the digest lands, whatever the source was.
func TestDigestDecides(t *testing.T) {
	_, a := landing(t, busy("", 3))
	for n := range 20 {
		v := moving(3)
		v.Ram.Data = []byte(pattern(768, int64(n)+100))
		want, _ := image.Join(a.Head, string(v.Ram.Data))
		digest, _ := image.Digest(want)
		wantLike(t, "another memory with its own digest", wantLand(t, "its own digest", v, a.Head, nil, digest), answer{M: want})
		wantErr(t, "with the source's", wantLand(t, "the source's digest", v, a.Head, nil, a.Digest), api.ErrMove)
	}
}

// P18.3: a move is broken off behind any call; the source goes on as it would have, and may be moved again.
func TestBrokenOff(t *testing.T) {
	r := rand.New(rand.NewSource(1803))
	for _, name := range names() {
		for at := range 9 {
			m, _ := machine.New(programs()[name], 3)
			c := setOff(t, fmt.Sprintf("%s, broken off behind round %d", name, at+1), m)
			for range min(at, 7) {
				c.live(life{r.Intn(30), anyInputs(r, r.Intn(2))})
				c.lostRound()
			}
			if at == 8 {
				a := c.rest()
				land(c.v, a.Head, a.Pieces, a.Digest)
			}
			for range 30 {
				c.live(steps(1))
			}
			c.live(life{100, anyInputs(r, 3)})
			c.again()
			c.live(steps(r.Intn(30)))
			c.round()
			c.onward(c.land(), life{50, anyInputs(r, 2)})
		}
	}
}

// P18.3: a source that stood still, and whose machine didn't land, goes on and rests again in the same round.
func TestRestsAgain(t *testing.T) {
	for _, name := range names() {
		m, _ := machine.New(programs()[name], 3)
		c := setOff(t, name, m)
		for n := range 4 {
			c.live(serial(25, "again"))
			a := c.rest()
			wantErr(t, name, wantLand(t, name, c.v, a.Head, a.Pieces, a.Digest+1), api.ErrMove)
			wantLike(t, name+": Rest, and Rest again", c.rest(), a)
			if c.v.Round != 1 || c.v.Since != 1 {
				t.Errorf("%s, rest %d: kept are %d and %d", name, n, c.v.Round, c.v.Since)
			}
		}
		c.onward(c.land(), frame(40, "behind"))
	}
}

// P18.3: calls that tell an error leave the source as it is, too.
func TestErrorsLeaveTheSource(t *testing.T) {
	m, _ := machine.New(many(), 3)
	c := setOff(t, "errors", m)
	for _, x := range stucks() {
		c.live(steps(3))
		wantRound(t, x.what, c.source, x.v)
		wantRest(t, x.what, c.source, x.v)
		wantTake(t, x.what, c.v, api.Piece{Leaf: 9})
		c.same(x.what)
	}
	c.onward(c.land())
}

// roomyArgs: what the calls are handed, with spare room in each list, for a call that answers without an error.
func roomyArgs(t *testing.T) answer {
	t.Helper()
	a := answer{M: roomy(many()), V: moving(2), Pieces: make([]api.Piece, 2, 5)}
	a.V.Ram = roomyRam(a.V.Ram)
	a.Head, _ = image.Head(a.M)
	a.Digest, _ = image.Digest(a.M)
	copy(a.Pieces, dirtyBy(a.M.Ram, 0))
	copy(a.Pieces[:5][2:], []api.Piece{{Leaf: 7, Bytes: "s"}, {Leaf: 8, Bytes: "p"}, {Leaf: 9, Bytes: "are"}})
	return a
}

// P1, DOC.md's rule 3: nothing that is handed in is changed or kept, its spare room neither; an answer shares nothing with
// it, and no two of its lists share.
func TestNewMemory(t *testing.T) {
	for what, call := range map[string]func(a answer) answer{
		"Begin": func(a answer) answer { return begin(a.M) },
		"Round": func(a answer) answer { return round(a.M, a.V) },
		"Take":  func(a answer) answer { return take(a.V, a.Pieces...) },
		"Rest":  func(a answer) answer { return rest(a.M, a.V) },
		"Land":  func(a answer) answer { return land(a.V, a.Head, a.Pieces, a.Digest) },
	} {
		want := kept(call(roomyArgs(t)))
		if want.Err != 0 {
			t.Fatalf("%s: error %d", what, want.Err)
		}
		for list := range lists(answer{}) {
			args := roomyArgs(t)
			got := call(args)
			wantLike(t, what+": what was handed in", whole(args), whole(roomyArgs(t)))
			lists(args)[list]()
			wantLike(t, what+": the answer, behind a change of what was handed in: "+list, got, want)
			args = roomyArgs(t)
			got = call(args)
			lists(got)[list]()
			wantLike(t, what+": what was handed in, behind a change of the answer: "+list, whole(args), whole(roomyArgs(t)))
			changed := kept(want)
			lists(changed)[list]()
			wantLike(t, what+": the answer's other lists, behind a change of "+list, got, changed)
			wantLike(t, what+": asked again", call(roomyArgs(t)), want)
		}
	}
}

// P1, DOC.md's rule 4: nothing is kept from call to call: the same calls answer the same, in the other order too.
func TestAsksNothingElse(t *testing.T) {
	r := rand.New(rand.NewSource(1804))
	var calls []func() answer
	for n := range 60 {
		m := anyMachine(r)
		if n%5 == 0 {
			wrongs()[r.Intn(len(wrongs()))].change(&m)
		}
		v, pieces := anyMoving(r, len(m.Ram.Marks)), anyPieces(r, 2)
		target, end := landing(t, busy(anyProgram(r), 2))
		calls = append(calls,
			func() answer { return begin(m) },
			func() answer { return round(m, v) },
			func() answer { return take(v, pieces...) },
			func() answer { return rest(m, v) },
			func() answer { return land(target, end.Head, end.Pieces, end.Digest+uint64(n%2)) })
	}
	var answers []answer
	for _, call := range calls {
		answers = append(answers, call())
	}
	for i := len(calls) - 1; i >= 0; i-- {
		wantLike(t, fmt.Sprint("call ", i), calls[i](), answers[i])
	}
}

// P1, P18.1: all arguments of any kind.
func TestAnything(t *testing.T) {
	r := rand.New(rand.NewSource(1805))
	landed := 0
	for range 1500 {
		m := anyMachine(r)
		count := len(m.Ram.Marks)
		if r.Intn(3) == 0 {
			wrongs()[r.Intn(len(wrongs()))].change(&m)
		}
		v, pieces := anyMoving(r, count), anyPieces(r, count)
		wantBegin(t, "anything", m)
		wantRound(t, "anything", m, v)
		a := wantRest(t, "anything", m, v)
		wantTake(t, "anything", v, pieces...)
		head := a.Head
		if r.Intn(3) == 0 {
			head = pattern(r.Intn(300), r.Int63())
		}
		wantLand(t, "anything", v, head, pieces, a.Digest)
		wantLand(t, "anything", v, head, append(a.Pieces, pieces...), r.Uint64())
		if all := dirtyBy(busyRam(count), 0); a.Err == 0 {
			copy(all, dirtyBy(m.Ram, 0))
			if got := wantLand(t, "anything", v, a.Head, append(pieces, all...), a.Digest); got.Err == 0 {
				landed++
			}
		}
	}
	if landed < 300 {
		t.Errorf("%d landed alone", landed)
	}
}
