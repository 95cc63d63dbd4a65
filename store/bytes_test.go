package store

import (
	"encoding/hex"
	"fmt"
	"math/rand"
	"slices"
	"strings"
	"testing"

	"tandem/api"
)

// bytesOf: the bytes of a text of base sixteen, in which blanks stand for nothing.
func bytesOf(text string) string {
	b, err := hex.DecodeString(strings.ReplaceAll(text, " ", ""))
	if err != nil {
		panic(err)
	}
	return string(b)
}

const (
	n8      = " 08000000 " // the length of a number's field
	n7      = " 07000000 " // that of a set's
	nought  = n8 + "0000000000000000"
	nobody  = n7 + "00000000000000"
	noneHex = "07000000" + n8 + "0500000000000000" + nought + nought + nought + nought + " 00000000" + nobody
	giveHex = "07000000" + n8 + "0000000000010000" + n8 + "0100000000000000" + n8 + "0201000000000000" + n8 + "4000000000000000" +
		n8 + "0200000000000000" + " 02000000 4142" + nobody
	configHex = "07000000" + n8 + "0300000000000000" + n8 + "0200000000000000" + nought + nought + nought + " 00000000" + n7 + "01000001000001"
)

// P20.1: the bytes of three entries, all by hand.
func TestEntryByHand(t *testing.T) {
	for _, x := range []struct {
		text  string
		entry api.Entry
	}{
		{noneHex, api.Entry{Term: 5}},
		{giveHex, api.Entry{Term: 1 << 40, Kind: 1, Input: api.Input{ID: 258, Gap: 64, Dev: 2, Data: "AB"}}},
		{configHex, api.Entry{Term: 3, Kind: 2, Set: members(0, 3, 6)}},
	} {
		wantLike(t, "an entry by hand", wantEntry(t, "an entry by hand", x.entry), answer{Text: bytesOf(x.text)})
		wantLike(t, "bytes by hand", wantReadEntry(t, "bytes by hand", bytesOf(x.text)), answer{Entry: x.entry})
	}
}

// P20.1: the bytes of two messages, all by hand.
func TestMessageByHand(t *testing.T) {
	sized := func(text string) string {
		n := len(bytesOf(text))
		return hex.EncodeToString([]byte(short(n))) + text
	}
	for _, x := range []struct {
		text string
		msg  api.Msg
	}{
		{
			"0a000000" + n8 + "0100000000000000" + nought + n8 + "0200000000000000" + nought + nought + nought + nought + nought + nobody + "00000000",
			api.Msg{Kind: 1, Term: 2},
		},
		{
			"0d000000" + n8 + "0300000000000000" + n8 + "0600000000000000" + n8 + "0000000000010000" + n8 + "0400000000000000" + n8 + "0500000000000000" +
				n8 + "0100000000000000" + n8 + "0700000000000000" + n8 + "ffffffffffffffff" + n7 + "00010000000100" + "03000000 786f79" +
				sized(noneHex) + sized(giveHex) + sized(configHex),
			api.Msg{Kind: 3, From: 6, Term: 1 << 40, Index: 4, Was: 5, OK: true, Done: 7, Mark: all, Set: members(1, 5), Snap: "xoy", List: []api.Entry{
				{Term: 5}, {Term: 1 << 40, Kind: 1, Input: api.Input{ID: 258, Gap: 64, Dev: 2, Data: "AB"}}, {Term: 3, Kind: 2, Set: members(0, 3, 6)},
			}},
		},
	} {
		wantLike(t, "a message by hand", wantMessage(t, "a message by hand", x.msg), answer{Text: bytesOf(x.text)})
		wantLike(t, "bytes by hand", wantReadMessage(t, "bytes by hand", bytesOf(x.text)), answer{Msg: x.msg})
	}
}

// P20.1, P20.2: entries that may be, to bytes and back.
func TestRightEntries(t *testing.T) {
	seen := map[string]api.Entry{}
	for _, x := range rightEntries() {
		a := wantEntry(t, x.what, x.thing)
		if a.Err != 0 {
			t.Errorf("%s: error %d", x.what, a.Err)
		}
		if e, ok := seen[a.Text]; ok && e != x.thing {
			t.Errorf("%s: the bytes are those of %+v too", x.what, e)
		}
		seen[a.Text] = x.thing
	}
}

// P20.1: an entry that may not be, for each of its reasons, has no bytes, and those that it would have are nobody's.
func TestWrongEntries(t *testing.T) {
	for _, x := range wrongEntries() {
		wantErr(t, x.what, wantEntry(t, x.what, x.thing), api.ErrArg)
		wantErr(t, x.what, wantReadEntry(t, x.what, entryText(x.thing)), api.ErrBytes)
	}
}

// P20.1, P20.2: messages that may be, to bytes and back.
func TestRightMessages(t *testing.T) {
	for _, x := range rightMessages() {
		if a := wantMessage(t, x.what, x.thing); a.Err != 0 {
			t.Errorf("%s: error %d", x.what, a.Err)
		}
	}
}

// P20.1: a message that may not be, likewise.
func TestWrongMessages(t *testing.T) {
	for _, x := range wrongMessages() {
		wantErr(t, x.what, wantMessage(t, x.what, x.thing), api.ErrArg)
		wantErr(t, x.what, wantReadMessage(t, x.what, messageText(x.thing)), api.ErrBytes)
	}
}

// spoilt: ways to spoil the fields of bytes, each by its name, where the numbers and the set's bytes stand at these places.
func spoilt(fields []string, nums []int, sets ...int) (list []known[string]) {
	put := func(what string, f ...string) { list = append(list, known[string]{what, pack(f...)}) }
	with := func(i int, s string) []string {
		f := slices.Clone(fields)
		f[i] = s
		return f
	}
	for i := range fields {
		put(fmt.Sprint("without field ", i), slices.Delete(slices.Clone(fields), i, i+1)...)
		put(fmt.Sprint("field ", i, " twice"), slices.Insert(slices.Clone(fields), i, fields[i])...)
		put(fmt.Sprint("an empty field ahead of ", i), slices.Insert(slices.Clone(fields), i, "")...)
		put(fmt.Sprint("fields up to ", i), fields[:i]...)
		put(fmt.Sprint("fields from ", i, " on"), fields[i:]...)
		put(fmt.Sprint("too long a field ", i), with(i, strings.Repeat("\x00", 1<<17+1))...)
	}
	for _, i := range nums {
		for _, s := range []string{"", fields[i][:7], fields[i] + "\x00", fields[i] + "\xff", fields[i][:1], fields[i] + fields[i]} {
			put(fmt.Sprintf("number %d of %d bytes", i, len(s)), with(i, s)...)
		}
		for _, n := range []uint64{0, 1, 2, 3, 6, 7, 8, 64, 65, 255, 256, top, top + 1, 1<<31 - 1, 1 << 31, 1 << 32, 1<<32 + 1, 1<<32 + 2, 1<<33 + 3, 1 << 63, 1<<63 + 1, all - 1, all} {
			put(fmt.Sprintf("number %d is %d", i, n), with(i, num(n))...)
		}
	}
	for _, at := range sets {
		set := fields[at]
		for i := range set {
			for _, b := range []byte{0, 1, 2, 3, 128, 254, 255, '0', '1'} {
				s := []byte(set)
				s[i] = b
				put(fmt.Sprintf("byte %d of the set is %d", i, b), with(at, string(s))...)
			}
		}
		for _, s := range []string{"", set[:6], set + "\x00", set + "\x01", set[:1], set + set, "1111111"} {
			put(fmt.Sprintf("a set %q", s), with(at, s)...)
		}
	}
	return list
}

// wrongBytes: bytes that no list of fields has, or other ones: each cut short and with one too many, each byte another one.
func wrongBytes(s string) (list []known[string]) {
	for n := range len(s) {
		list = append(list, known[string]{fmt.Sprint("the first ", n, " bytes"), s[:n]}, known[string]{fmt.Sprint("from byte ", n, " on"), s[n+1:]})
		for _, b := range []byte{s[n] + 1, s[n] - 1, s[n] ^ 0x80, 0, 1, 255} {
			list = append(list, known[string]{fmt.Sprintf("byte %d is %d", n, b), s[:n] + string([]byte{b}) + s[n+1:]})
		}
	}
	for _, more := range []string{"\x00", "\x01", "\xff", "\x00\x00\x00\x00", short(1) + "x", s} {
		list = append(list, known[string]{fmt.Sprintf("%.20q behind", more), s + more}, known[string]{fmt.Sprintf("%.20q ahead", more), more + s})
	}
	return list
}

// P20.1, P20.2: bytes that aren't an entry's: spoilt ones of each Kind.
func TestWrongEntryBytes(t *testing.T) {
	good := 0
	for _, e := range []api.Entry{none(5), give(3, 258), give(top, 63), config(3, 0, 3, 6), config(1, 0, 1, 2, 3, 4, 5, 6)} {
		fields, _ := fieldsOf(entryText(e))
		for _, x := range append(spoilt(fields, []int{0, 1, 2, 3, 4}, 6), wrongBytes(entryText(e))...) {
			what := fmt.Sprintf("Kind %d: %s", e.Kind, x.what)
			if a := wantReadEntry(t, what, x.thing); a.Err == 0 {
				good++
			} else {
				wantErr(t, what, a, api.ErrBytes)
			}
		}
	}
	if good < 100 {
		t.Errorf("%d read alone", good)
	}
	for _, s := range []string{"", "\x00", short(0), pack(), pack(""), "x", strings.Repeat("\x00", 1<<20), strings.Repeat("\x00", 1<<20+1), strings.Repeat("\xff", 100), messageText(message(3))} {
		wantErr(t, "no entry", wantReadEntry(t, "no entry", s), api.ErrBytes)
	}
}

// P20.1, P20.2: bytes that aren't a message's, likewise, and an entry's bytes in it that are none's.
func TestWrongMessageBytes(t *testing.T) {
	good := 0
	for kind := 1; kind < 7; kind++ {
		m := message(kind)
		m.List = m.List[:kind%5]
		fields, _ := fieldsOf(messageText(m))
		list := append(spoilt(fields, []int{0, 1, 2, 3, 4, 5, 6, 7}, 8), wrongBytes(messageText(m))...)
		for i, e := range m.List {
			in, _ := fieldsOf(entryText(e))
			for _, x := range append(spoilt(in, []int{0, 1, 2, 3, 4}, 6), wrongBytes(entryText(e))...) {
				f := slices.Clone(fields)
				f[10+i] = x.thing
				list = append(list, known[string]{fmt.Sprintf("entry %d: %s", i, x.what), pack(f...)})
			}
		}
		for _, x := range list {
			what := fmt.Sprintf("Kind %d: %s", kind, x.what)
			if a := wantReadMessage(t, what, x.thing); a.Err == 0 {
				good++
			} else {
				wantErr(t, what, a, api.ErrBytes)
			}
		}
	}
	if good < 1000 {
		t.Errorf("%d read alone", good)
	}
	for _, s := range []string{"", "\x00", short(0), pack(), pack(""), "x", strings.Repeat("\x00", 1<<20), strings.Repeat("\x00", 1<<20+1), entryText(give(1, 1))} {
		wantErr(t, "no message", wantReadMessage(t, "no message", s), api.ErrBytes)
	}
}

// P20.2: bytes of any kind: what is read is written so.
func TestAnyBytes(t *testing.T) {
	r := rand.New(rand.NewSource(2001))
	read := 0
	for range 20000 {
		m := message(1 + r.Intn(6))
		m.List = anyEntries(r, r.Intn(7), 1, 9)
		for _, s := range []string{entryText(anyEntry(r, uint64(r.Intn(3)))), messageText(m)} {
			b := []byte(s)
			for range r.Intn(3) {
				b[r.Intn(len(b))] = byte(r.Intn(256)) & byte(r.Intn(256)) & byte(r.Intn(256))
			}
			if a, c := wantReadEntry(t, "any bytes", string(b)), wantReadMessage(t, "any bytes", string(b)); a.Err == 0 || c.Err == 0 {
				read++
			}
		}
	}
	if read < 5000 {
		t.Errorf("%d read alone", read)
	}
}
