package move

import (
	"fmt"
	"slices"
	"strings"
	"testing"

	"tandem/api"
	"tandem/image"
	"tandem/machine"
)

// A life is what befalls a machine for a while: steps, then inputs.
type life struct {
	steps  int
	inputs []api.Input
}

func steps(n int) life { return life{steps: n} }

func serial(gap int, s string) life { return life{0, []api.Input{{Gap: gap, Dev: 1, Data: s}}} }

func frame(gap int, s string) life { return life{0, []api.Input{{Gap: gap, Dev: 2, Data: s}}} }

func (l life) of(t *testing.T, m api.Machine) api.Machine {
	t.Helper()
	m, e := machine.Run(m, l.steps)
	for i := 0; i < len(l.inputs) && e == 0; i++ {
		m, e = machine.Give(m, l.inputs[i])
	}
	if e != 0 {
		t.Fatalf("a life ends with error %d", e)
	}
	return m
}

// A course is a move under way: the source, what the target has, and a machine with the source's life but no move.
type course struct {
	t      *testing.T
	what   string
	source api.Machine
	v      api.Moving
	apart  api.Machine
}

// bytesOf: the machine's bytes.
func bytesOf(t *testing.T, m api.Machine) string {
	t.Helper()
	s, e := image.Bytes(m)
	if e != 0 {
		t.Fatalf("a machine that may not be: error %d", e)
	}
	return s
}

// setOff: a move that begins, its pieces taken.
func setOff(t *testing.T, what string, m api.Machine) *course {
	t.Helper()
	c := &course{t: t, what: what, source: m, apart: twin(m)}
	c.again()
	return c
}

// again: the move begins anew with the source of now.
func (c *course) again() {
	c.t.Helper()
	a := wantBegin(c.t, c.what, c.source)
	c.source, c.v = a.M, a.V
	c.take(a.Pieces)
	c.same("Begin")
}

func (c *course) take(pieces []api.Piece) {
	c.t.Helper()
	a := wantTake(c.t, c.what, c.v, pieces...)
	if a.Err != 0 {
		c.t.Fatalf("%s: Take: error %d", c.what, a.Err)
	}
	c.v = a.V
}

func (c *course) live(l life) {
	c.t.Helper()
	c.source, c.apart = l.of(c.t, c.source), l.of(c.t, c.apart)
	c.same("a life")
}

// round: a round, its pieces taken.
func (c *course) round() []api.Piece {
	c.t.Helper()
	a := c.lostRound()
	c.take(a)
	return a
}

// lostRound: a round, its pieces not taken.
func (c *course) lostRound() []api.Piece {
	c.t.Helper()
	a := wantRound(c.t, c.what, c.source, c.v)
	if a.Err != 0 {
		c.t.Fatalf("%s: Round: error %d", c.what, a.Err)
	}
	c.source, c.v = a.M, a.V
	c.same("Round")
	return a.Pieces
}

// rest: what the source tells at the end.
func (c *course) rest() answer {
	c.t.Helper()
	a := wantRest(c.t, c.what, c.source, c.v)
	if a.Err != 0 {
		c.t.Fatalf("%s: Rest: error %d", c.what, a.Err)
	}
	c.same("Rest")
	return a
}

// land: Rest and Land; the target's bytes are the source's (P18.2).
func (c *course) land() api.Machine {
	c.t.Helper()
	a := c.rest()
	b := wantLand(c.t, c.what, c.v, a.Head, a.Pieces, a.Digest)
	if b.Err != 0 {
		c.t.Fatalf("%s: Land: error %d", c.what, b.Err)
	}
	if bytesOf(c.t, b.M) != bytesOf(c.t, c.source) {
		c.t.Errorf("%s: other bytes landed", c.what)
	}
	return b.M
}

// same: the source is as it would be without the move, its records too (P18.3).
func (c *course) same(behind string) {
	c.t.Helper()
	if bytesOf(c.t, c.source) != bytesOf(c.t, c.apart) || !slices.Equal(c.source.Outs, c.apart.Outs) {
		c.t.Errorf("%s: behind %s the source is another one than without the move", c.what, behind)
	}
}

// onward: what landed makes the same steps as the source and as the machine without the move, and sends the same.
func (c *course) onward(landed api.Machine, lives ...life) {
	c.t.Helper()
	old := len(c.source.Outs)
	for range 25 {
		lives = append([]life{steps(1)}, lives...)
	}
	for i, l := range lives {
		c.live(l)
		landed = l.of(c.t, landed)
		if bytesOf(c.t, landed) != bytesOf(c.t, c.source) || !slices.Equal(landed.Outs, c.source.Outs[old:]) {
			c.t.Fatalf("%s: behind landing and %d lives: another machine", c.what, i+1)
		}
	}
}

// leaves: of pieces, one a word.
func leaves(pieces []api.Piece) string {
	var words []string
	for _, p := range pieces {
		words = append(words, fmt.Sprint(p.Leaf))
	}
	return strings.Join(words, " ")
}
