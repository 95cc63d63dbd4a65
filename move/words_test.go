package move

import (
	"fmt"
	"reflect"
	"slices"
	"testing"

	"tandem/api"
	"tandem/image"
	"tandem/machine"
)

// An answer is all that one of the five calls tells; a call leaves as nothing what it doesn't tell.
type answer struct {
	M      api.Machine
	V      api.Moving
	Pieces []api.Piece
	Head   string
	Digest uint64
	Err    api.Errno
}

func begin(m api.Machine) (a answer) {
	a.M, a.V, a.Pieces, a.Err = Begin(m)
	return a
}

func round(m api.Machine, v api.Moving) (a answer) {
	a.M, a.V, a.Pieces, a.Err = Round(m, v)
	return a
}

func take(v api.Moving, pieces ...api.Piece) (a answer) {
	a.V, a.Err = Take(v, pieces...)
	return a
}

func rest(m api.Machine, v api.Moving) (a answer) {
	a.Head, a.Pieces, a.Digest, a.Err = Rest(m, v)
	return a
}

func land(v api.Moving, head string, pieces []api.Piece, digest uint64) (a answer) {
	a.M, a.Err = Land(v, head, pieces, digest)
	return a
}

// twin: the same machine, made apart from the program; twinRam: likewise.
func twin(m api.Machine) api.Machine {
	m.Board.Frames, m.Outs, m.Ram = slices.Clone(m.Board.Frames), slices.Clone(m.Outs), twinRam(m.Ram)
	return m
}

func twinRam(mem api.Ram) api.Ram {
	mem.Data, mem.Marks = slices.Clone(mem.Data), slices.Clone(mem.Marks)
	return mem
}

// kept: the same answer, or the same arguments, likewise.
func kept(a answer) answer {
	a.M, a.V.Ram, a.Pieces = twin(a.M), twinRam(a.V.Ram), slices.Clone(a.Pieces)
	return a
}

// noMemory: may the memory not be, by the words of chapter 5?
func noMemory(mem api.Ram) bool {
	n := len(mem.Marks)
	late := func(mark uint64) bool { return mark > mem.Epoch }
	return n == 0 || n > 256 || len(mem.Data) != 256*n || slices.ContainsFunc(mem.Marks, late)
}

// dirtyBy: the leaves with a mark that isn't below since.
func dirtyBy(mem api.Ram, since uint64) (list []api.Piece) {
	for leaf, mark := range mem.Marks {
		if !(mark < since) {
			list = append(list, api.Piece{Leaf: leaf, Bytes: string(mem.Data[256*leaf:][:256])})
		}
	}
	return list
}

// beginBy, roundBy, takeBy, restBy and landBy: as the chapters' words tell them; what a machine is as bytes chapter 17's
// calls tell, whether it may be chapter 16's.
func beginBy(m api.Machine) (a answer) {
	if a.Err = machine.Check(m); a.Err != 0 {
		return a
	}
	leaves := len(m.Ram.Marks)
	a.sourceBy(m, 1)
	a.V.Ram = api.Ram{Data: make([]byte, 256*leaves), Marks: make([]uint64, leaves)}
	a.Pieces = dirtyBy(m.Ram, 0)
	return a
}

func roundBy(m api.Machine, v api.Moving) (a answer) {
	if a.Err = stuckBy(m, v); a.Err != 0 {
		return a
	}
	if v.Round > 7 {
		return answer{Err: 180}
	}
	a.sourceBy(m, v.Round+1)
	a.V.Ram = twinRam(v.Ram)
	a.Pieces = dirtyBy(m.Ram, v.Since)
	return a
}

// sourceBy: the answer gets the source with a new epoch, and the move is in this round.
func (a *answer) sourceBy(m api.Machine, n int) {
	a.M = twin(m)
	if m.Ram.Epoch>>62 == 0 {
		a.M.Ram.Epoch++
	}
	a.V.Round, a.V.Since = n, a.M.Ram.Epoch
}

// stuckBy: Check of the source, then whether the move may go on.
func stuckBy(m api.Machine, v api.Moving) api.Errno {
	if e := machine.Check(m); e != 0 {
		return e
	}
	if v.Round <= 0 || v.Round >= 9 || noMemory(v.Ram) || len(v.Ram.Data) != len(m.Ram.Data) {
		return 180
	}
	return 0
}

func takeBy(v api.Moving, pieces ...api.Piece) (a answer) {
	for _, p := range pieces {
		if p.Leaf < 0 || p.Leaf >= len(v.Ram.Data)/256 || len(p.Bytes) != 256 {
			return answer{Err: 50}
		}
	}
	a.V, a.V.Ram = v, twinRam(v.Ram)
	for _, p := range pieces {
		for i := range 256 {
			a.V.Ram.Data[256*p.Leaf+i] = p.Bytes[i]
		}
		if p.Leaf < len(v.Ram.Marks) {
			a.V.Ram.Marks[p.Leaf] = v.Ram.Epoch
		}
	}
	return a
}

func restBy(m api.Machine, v api.Moving) (a answer) {
	if a.Err = stuckBy(m, v); a.Err != 0 {
		return a
	}
	a.Head, a.Err = image.Head(m)
	a.Digest, _ = image.Digest(m)
	a.Pieces = dirtyBy(m.Ram, v.Since)
	return a
}

func landBy(v api.Moving, head string, pieces []api.Piece, digest uint64) (a answer) {
	target := takeBy(v, pieces...)
	if target.Err != 0 {
		return target
	}
	if a.M, a.Err = image.Join(head, string(target.V.Ram.Data)); a.Err != 0 {
		return a
	}
	if n, e := image.Digest(a.M); n != digest || e != 0 {
		return answer{Err: 180}
	}
	return a
}

// unlike: what differs, by its name; a list that holds nothing may be nil or empty.
func unlike(name string, got, want reflect.Value) (s string) {
	if got.Kind() == reflect.Struct {
		for i := range got.NumField() {
			s += unlike(name+"."+got.Type().Field(i).Name, got.Field(i), want.Field(i))
		}
		return s
	}
	if got.Kind() == reflect.Slice && got.Len() == 0 && want.Len() == 0 {
		return ""
	}
	if reflect.DeepEqual(got.Interface(), want.Interface()) {
		return ""
	}
	return fmt.Sprintf("\n\t%s: %.200s, want %.200s", name, fmt.Sprintf("%#v", got), fmt.Sprintf("%#v", want))
}

// wantLike: two answers, or parts of them, are the same.
func wantLike[T any](t *testing.T, what string, got, want T) {
	t.Helper()
	if s := unlike("", reflect.ValueOf(got), reflect.ValueOf(want)); s != "" {
		t.Errorf("%s:%s", what, s)
	}
}

// wantCall: a call answers as the words tell, with nothing beside an error, and leaves what it is handed.
func wantCall(t *testing.T, what string, args answer, call, words func(args answer) answer) answer {
	t.Helper()
	was := kept(args)
	got := call(args)
	want := words(kept(was))
	wantLike(t, what, got, want)
	wantLike(t, what+": what was handed in", args, was)
	if got.Err != 0 {
		wantLike(t, what+": beside an error", got, answer{Err: got.Err})
	}
	return got
}

func wantBegin(t *testing.T, what string, m api.Machine) answer {
	t.Helper()
	return wantCall(t, what+": Begin", answer{M: m},
		func(a answer) answer { return begin(a.M) }, func(a answer) answer { return beginBy(a.M) })
}

func wantRound(t *testing.T, what string, m api.Machine, v api.Moving) answer {
	t.Helper()
	return wantCall(t, what+": Round", answer{M: m, V: v},
		func(a answer) answer { return round(a.M, a.V) }, func(a answer) answer { return roundBy(a.M, a.V) })
}

func wantTake(t *testing.T, what string, v api.Moving, pieces ...api.Piece) answer {
	t.Helper()
	return wantCall(t, what+": Take", answer{V: v, Pieces: pieces},
		func(a answer) answer { return take(a.V, a.Pieces...) }, func(a answer) answer { return takeBy(a.V, a.Pieces...) })
}

func wantRest(t *testing.T, what string, m api.Machine, v api.Moving) answer {
	t.Helper()
	return wantCall(t, what+": Rest", answer{M: m, V: v},
		func(a answer) answer { return rest(a.M, a.V) }, func(a answer) answer { return restBy(a.M, a.V) })
}

// wantLand: likewise, and what lands has the digest (P18.4).
func wantLand(t *testing.T, what string, v api.Moving, head string, pieces []api.Piece, digest uint64) answer {
	t.Helper()
	got := wantCall(t, what+": Land", answer{V: v, Pieces: pieces, Head: head, Digest: digest},
		func(a answer) answer { return land(a.V, a.Head, a.Pieces, a.Digest) },
		func(a answer) answer { return landBy(a.V, a.Head, a.Pieces, a.Digest) })
	if n, e := image.Digest(got.M); got.Err == 0 && (n != digest || e != 0) {
		t.Errorf("%s: a machine landed whose digest is %x, error %d, want %x", what, n, e, digest)
	}
	return got
}

// wantErr: the answer is this error, and nothing beside it.
func wantErr(t *testing.T, what string, got answer, want api.Errno) {
	t.Helper()
	wantLike(t, what, got, answer{Err: want})
}
