package store

import (
	"encoding/binary"
	"fmt"
	"reflect"
	"slices"
	"strings"
	"testing"

	"tandem/api"
	"tandem/wal"
)

// An answer is all that one of the calls tells; a call leaves as nothing what it doesn't tell.
type answer struct {
	Text  string
	Entry api.Entry
	Msg   api.Msg
	State api.Hard
	Plan  []api.DiskOp
	Err   api.Errno
}

// Asked is all that one of the calls is handed.
type asked struct {
	Entry api.Entry
	Msg   api.Msg
	Text  string
	Was   api.Hard
	Now   api.Hard
	Disk  api.Disk
	Set   api.Set
}

// A call by its name, and what the chapter's words tell of it.
type call struct {
	name        string
	call, words func(q asked) answer
}

// calls: all of the chapter's.
func calls() []call {
	return []call{
		{"Entry", func(q asked) (a answer) { a.Text, a.Err = Entry(q.Entry); return a }, entryBy},
		{"ReadEntry", func(q asked) (a answer) { a.Entry, a.Err = ReadEntry(q.Text); return a }, readEntryBy},
		{"Check", func(q asked) (a answer) { a.Err = Check(q.Now); return a }, checkBy},
		{"Fresh", func(q asked) (a answer) { a.State = Fresh(q.Set); return a }, freshBy},
		{"Copy", func(q asked) (a answer) { a.State = Copy(q.Now); return a }, copyBy},
		{"Open", func(q asked) (a answer) { a.State, a.Plan, a.Err = Open(q.Disk, q.Set); return a }, openBy},
		{"Save", func(q asked) (a answer) { a.Plan, a.Err = Save(q.Disk, q.Was, q.Now); return a }, saveBy},
		{"Message", func(q asked) (a answer) { a.Text, a.Err = Message(q.Msg); return a }, messageBy},
		{"ReadMessage", func(q asked) (a answer) { a.Msg, a.Err = ReadMessage(q.Text); return a }, readMessageBy},
	}
}

// named: the call of this name.
func named(name string) call {
	for _, c := range calls() {
		if c.name == name {
			return c
		}
	}
	panic("no call " + name)
}

// twin and twinDisk: the same state, the same disk, made apart from the program.
func twin(h api.Hard) api.Hard {
	h.Log.List = append([]api.Entry(nil), h.Log.List...)
	return h
}

func twinDisk(d api.Disk) (out api.Disk) {
	for _, f := range d.Files {
		f.Open = append([]api.Write(nil), f.Open...)
		out.Files = append(out.Files, f)
	}
	return out
}

// keptAsked and keptAnswer: the same, likewise.
func keptAsked(q asked) asked {
	q.Was, q.Now, q.Disk = twin(q.Was), twin(q.Now), twinDisk(q.Disk)
	q.Msg.List = append([]api.Entry(nil), q.Msg.List...)
	return q
}

func keptAnswer(a answer) answer {
	a.State, a.Msg.List, a.Plan = twin(a.State), append([]api.Entry(nil), a.Msg.List...), append([]api.DiskOp(nil), a.Plan...)
	return a
}

// num: eight bytes, the least first.
func num(n uint64) string { return string(binary.LittleEndian.AppendUint64(nil, n)) }

// short: four bytes, the least first.
func short(n int) string { return string(binary.LittleEndian.AppendUint32(nil, uint32(n))) }

// pack: fields by the words of chapter 1, whatever they are.
func pack(fields ...string) string {
	var b strings.Builder
	b.WriteString(short(len(fields)))
	for _, f := range fields {
		b.WriteString(short(len(f)) + f)
	}
	return b.String()
}

// fieldsOf: the fields of which s is pack; false: of none.
func fieldsOf(s string) (fields []string, ok bool) {
	whole := s
	if len(s) < 4 || len(s) > 1048576 {
		return nil, false
	}
	count := binary.LittleEndian.Uint32([]byte(s))
	for s = s[4:]; len(s) >= 4; {
		size := uint64(binary.LittleEndian.Uint32([]byte(s)))
		if size > 131072 || size+4 > uint64(len(s)) {
			return nil, false
		}
		fields = append(fields, s[4:4+size])
		s = s[4+size:]
	}
	return fields, count <= 1024 && uint64(count) == uint64(len(fields)) && pack(fields...) == whole
}

// numOf: the number of eight bytes.
func numOf(s string) (uint64, bool) {
	if len(s) != 8 {
		return 0, false
	}
	return binary.LittleEndian.Uint64([]byte(s)), true
}

// numsOf: the numbers of fields; false: one of them is none.
func numsOf(fields ...string) (list []uint64, ok bool) {
	for _, f := range fields {
		n, ok := numOf(f)
		if !ok {
			return nil, false
		}
		list = append(list, n)
	}
	return list, true
}

func setText(s api.Set) (text string) {
	for _, in := range s {
		if in {
			text += "\x01"
		} else {
			text += "\x00"
		}
	}
	return text
}

// setOf: the set of its bytes.
func setOf(text string) (api.Set, bool) {
	for n := range 128 {
		if setText(numbered(n)) == text {
			return numbered(n), true
		}
	}
	return api.Set{}, false
}

// isMember: has the set one?
func isMember(s api.Set) bool { return s != api.Set{} }

// entryMayBe: by its Kind's words, which are chapter 19's, and chapter 16's of the input.
func entryMayBe(e api.Entry) bool {
	if e.Term == 0 || e.Term > 0x10000000000 {
		return false
	}
	in := e.Input
	nothing := in.ID == 0 && in.Gap == 0 && in.Dev == 0 && len(in.Data) == 0
	right := in.ID != 0 && in.Gap > 0 && in.Gap < 65 && (in.Dev == 1 || in.Dev == 2) && len(in.Data) > 0 && len(in.Data) < 65
	return e.Kind == 0 && nothing && !isMember(e.Set) || e.Kind == 1 && right && !isMember(e.Set) || e.Kind == 2 && nothing && isMember(e.Set)
}

// entryText: an entry's bytes, may it be or not.
func entryText(e api.Entry) string {
	in := e.Input
	return pack(num(e.Term), num(uint64(e.Kind)), num(in.ID), num(uint64(in.Gap)), num(uint64(in.Dev)), in.Data, setText(e.Set))
}

func entryTexts(list []api.Entry) (texts []string) {
	for _, e := range list {
		texts = append(texts, entryText(e))
	}
	return texts
}

func entryBy(q asked) answer {
	if !entryMayBe(q.Entry) {
		return answer{Err: 1}
	}
	return answer{Text: entryText(q.Entry)}
}

func readEntryBy(q asked) answer {
	none := answer{Err: 3}
	f, ok := fieldsOf(q.Text)
	if !ok || len(f) != 7 {
		return none
	}
	n, ok := numsOf(f[:5]...)
	set, fine := setOf(f[6])
	if !ok || !fine || n[1] > 2 || n[3] > 64 || n[4] > 2 {
		return none
	}
	e := api.Entry{Term: n[0], Kind: int(n[1]), Input: api.Input{ID: n[2], Gap: int(n[3]), Dev: int(n[4]), Data: f[5]}, Set: set}
	if !entryMayBe(e) {
		return none
	}
	return answer{Entry: e}
}

// entriesOf: the entries of fields; false: one of them is none's bytes.
func entriesOf(fields []string) (list []api.Entry, ok bool) {
	for _, f := range fields {
		a := readEntryBy(asked{Text: f})
		if a.Err != 0 {
			return nil, false
		}
		list = append(list, a.Entry)
	}
	return list, true
}

func messageMay(m api.Msg) bool {
	if !slices.Contains([]int{1, 2, 3, 4, 5, 6}, m.Kind) || !slices.Contains([]int{0, 1, 2, 3, 4, 5, 6}, m.From) {
		return false
	}
	for _, n := range []uint64{m.Term, m.Index, m.Was, m.Done} {
		if n > 0x10000000000 {
			return false
		}
	}
	return m.Term != 0 && len(m.List) < 5 && len(m.Snap) < 100001 && !slices.ContainsFunc(m.List, func(e api.Entry) bool { return !entryMayBe(e) })
}

// messageText: a message's bytes, may it be or not.
func messageText(m api.Msg) string {
	good := uint64(0)
	if m.OK {
		good = 1
	}
	f := []string{num(uint64(m.Kind)), num(uint64(m.From)), num(m.Term), num(m.Index), num(m.Was), num(good), num(m.Done), num(m.Mark), setText(m.Set), m.Snap}
	return pack(append(f, entryTexts(m.List)...)...)
}

func messageBy(q asked) answer {
	if !messageMay(q.Msg) {
		return answer{Err: 1}
	}
	return answer{Text: messageText(q.Msg)}
}

func readMessageBy(q asked) answer {
	none := answer{Err: 3}
	f, ok := fieldsOf(q.Text)
	if !ok || len(f) < 10 {
		return none
	}
	n, ok := numsOf(f[:8]...)
	set, fine := setOf(f[8])
	list, good := entriesOf(f[10:])
	if !ok || !fine || !good || n[0] > 6 || n[1] > 6 || n[5] > 1 {
		return none
	}
	m := api.Msg{Kind: int(n[0]), From: int(n[1]), Term: n[2], Index: n[3], Was: n[4], OK: n[5] == 1, Done: n[6], Mark: n[7], Set: set, Snap: f[9], List: list}
	if !messageMay(m) {
		return none
	}
	return answer{Msg: m}
}

// logMay: by chapter 19's words.
func logMay(l api.Log) bool {
	may := l.Base <= 0x10000000000 && l.BaseTerm <= 0x10000000000 && isMember(l.Set) && len(l.List) < 513
	for i, ahead := 0, l.BaseTerm; may && i < len(l.List); i++ {
		may = entryMayBe(l.List[i]) && ahead <= l.List[i].Term
		ahead = l.List[i].Term
	}
	return may
}

// lastTerm: of a log.
func lastTerm(l api.Log) uint64 {
	term := l.BaseTerm
	for _, e := range l.List {
		term = e.Term
	}
	return term
}

func checkBy(q asked) answer {
	h := q.Now
	switch {
	case h.Term > 0x10000000000, !slices.Contains([]int{-1, 0, 1, 2, 3, 4, 5, 6}, h.Vote), len(h.Snap) >= 100001:
		return answer{Err: 200}
	case !logMay(h.Log):
		return answer{Err: 190}
	case lastTerm(h.Log) > h.Term:
		return answer{Err: 200}
	}
	return answer{}
}

func freshBy(q asked) (a answer) {
	a.State.Vote, a.State.Log.Set = -1, q.Set
	return a
}

func copyBy(q asked) answer { return answer{State: twin(q.Now)} }

// The records by the chapter's words, may they be or not.

func voteText(h api.Hard) string { return pack("h", num(h.Term), num(uint64(h.Vote+1))) }

func cutText(index uint64) string { return pack("c", num(index)) }

func addText(index uint64, e api.Entry) string { return pack("e", num(index), entryText(e)) }

func stateText(h api.Hard) string {
	f := []string{"s", num(h.Term), num(uint64(h.Vote + 1)), num(h.Log.Base), num(h.Log.BaseTerm), setText(h.Log.Set), h.Snap}
	return pack(append(f, entryTexts(h.Log.List)...)...)
}

// behind: the state behind a record; false: the record may not be, or the state may not be then.
func behind(h api.Hard, record string) (api.Hard, bool) {
	h = twin(h)
	f, ok := fieldsOf(record)
	if !ok || len(f) == 0 {
		return h, false
	}
	last := h.Log.Base + uint64(len(h.Log.List))
	switch kind, f := f[0], f[1:]; {
	case kind == "h" && len(f) == 2:
		n, ok := numsOf(f...)
		if !ok || n[1] > 7 {
			return h, false
		}
		h.Term, h.Vote = n[0], int(n[1])-1
	case kind == "c" && len(f) == 1:
		n, ok := numOf(f[0])
		if !ok || n < h.Log.Base || n > last {
			return h, false
		}
		for ; last > n; last-- {
			h.Log.List = h.Log.List[:len(h.Log.List)-1]
		}
	case kind == "e" && len(f) == 2:
		n, ok := numOf(f[0])
		list, good := entriesOf(f[1:])
		if !ok || !good || n != last+1 {
			return h, false
		}
		h.Log.List = append(h.Log.List, list...)
	case kind == "s" && len(f) >= 6:
		n, ok := numsOf(f[:4]...)
		set, fine := setOf(f[4])
		list, good := entriesOf(f[6:])
		if !ok || !fine || !good || n[1] > 7 {
			return h, false
		}
		h = api.Hard{Term: n[0], Vote: int(n[1]) - 1, Log: api.Log{Base: n[2], BaseTerm: n[3], Set: set, List: list}, Snap: f[5]}
	default:
		return h, false
	}
	return h, checkBy(asked{Now: h}).Err == 0
}

func openBy(q asked) answer {
	if !isMember(q.Set) {
		return answer{Err: 1}
	}
	records, plan, e := wal.Open(q.Disk, "r")
	if e != 0 {
		return answer{Err: e}
	}
	h := freshBy(q).State
	for _, s := range records {
		var ok bool
		if h, ok = behind(h, s); !ok {
			return answer{Err: 200}
		}
	}
	return answer{State: h, Plan: plan}
}

// renews: has the disk's log to be begun anew?
func renews(was, now api.Hard) bool {
	a, b := was.Log, now.Log
	return was.Snap != now.Snap || a.Base != b.Base || a.BaseTerm != b.BaseTerm || a.Set != b.Set
}

// common: how many first entries both logs share.
func common(was, now api.Hard) (k int) {
	for i, e := range was.Log.List {
		if i < len(now.Log.List) && k == i && reflect.DeepEqual(e, now.Log.List[i]) {
			k++
		}
	}
	return k
}

// recordsOf: those that Save appends.
func recordsOf(was, now api.Hard) (list []string) {
	k := common(was, now)
	if was.Term != now.Term || was.Vote != now.Vote {
		list = append(list, voteText(now))
	}
	if len(was.Log.List) != k {
		list = append(list, cutText(now.Log.Base+uint64(k)))
	}
	for i, e := range now.Log.List {
		if i >= k {
			list = append(list, addText(now.Log.Base+1+uint64(i), e))
		}
	}
	return list
}

func saveBy(q asked) answer {
	for _, h := range []api.Hard{q.Was, q.Now} {
		if a := checkBy(asked{Now: h}); a.Err != 0 {
			return a
		}
	}
	if q.Now.Term < q.Was.Term {
		return answer{Err: 200}
	}
	var a answer
	if renews(q.Was, q.Now) {
		a.Plan, a.Err = wal.Renew(q.Disk, "r", stateText(q.Now))
		return a
	}
	if a.Plan, a.Err = wal.Append(q.Disk, "r", recordsOf(q.Was, q.Now)...); a.Err != 0 {
		return a
	}
	for i := len(a.Plan) - 1; i >= 0; i-- {
		if a.Plan[i].Kind == 1 {
			a.Plan = append(a.Plan, api.DiskOp{Kind: 2, Name: a.Plan[i].Name})
			break
		}
	}
	return a
}

// unlike: what differs, by its name; a list that holds nothing may be nil or empty.
func unlike(name string, got, want reflect.Value) (s string) {
	if got.Kind() == reflect.Struct && got.Type() != reflect.TypeFor[api.Entry]() {
		for i := range got.NumField() {
			s += unlike(name+"."+got.Type().Field(i).Name, got.Field(i), want.Field(i))
		}
		return s
	}
	if got.Kind() == reflect.Slice && got.Len() == want.Len() {
		for i := range got.Len() {
			s += unlike(fmt.Sprintf("%s[%d]", name, i), got.Index(i), want.Index(i))
		}
		return s
	}
	if reflect.DeepEqual(got.Interface(), want.Interface()) {
		return ""
	}
	return fmt.Sprintf("\n\t%s: %.200q, want %.200q", name, fmt.Sprintf("%+v", got), fmt.Sprintf("%+v", want))
}

// wantLike: two answers, or parts of them, are the same.
func wantLike[T any](t *testing.T, what string, got, want T) {
	t.Helper()
	if s := unlike("", reflect.ValueOf(got), reflect.ValueOf(want)); s != "" {
		t.Errorf("%s:%.2000s", what, s)
	}
}

// wantErr: the answer is this error, and nothing beside it.
func wantErr(t *testing.T, what string, got answer, want api.Errno) {
	t.Helper()
	wantLike(t, what, got, answer{Err: want})
}

// wantCall: a call answers as the words tell, has nothing beside an error, and leaves what it is handed.
func wantCall(t *testing.T, what, name string, q asked) answer {
	t.Helper()
	c, was := named(name), keptAsked(q)
	got := c.call(q)
	wantLike(t, what+": "+name, got, c.words(keptAsked(was)))
	wantLike(t, what+": what "+name+" was handed", q, was)
	if got.Err != 0 {
		wantErr(t, what+": "+name+" beside an error", got, got.Err)
	}
	return got
}

// wantEntry: an entry to bytes and, if it has some, back.
func wantEntry(t *testing.T, what string, e api.Entry) answer {
	t.Helper()
	got := wantCall(t, what, "Entry", asked{Entry: e})
	if got.Err == 0 {
		wantLike(t, what+": there and back", wantCall(t, what, "ReadEntry", asked{Text: got.Text}), answer{Entry: e})
	}
	return got
}

// wantReadEntry: bytes to an entry and, if they are one's, back.
func wantReadEntry(t *testing.T, what, s string) answer {
	t.Helper()
	got := wantCall(t, what, "ReadEntry", asked{Text: s})
	if got.Err == 0 {
		wantLike(t, what+": read and written", wantCall(t, what, "Entry", asked{Entry: got.Entry}), answer{Text: s})
	}
	return got
}

// wantMessage and wantReadMessage: likewise.
func wantMessage(t *testing.T, what string, m api.Msg) answer {
	t.Helper()
	got := wantCall(t, what, "Message", asked{Msg: m})
	if got.Err == 0 {
		wantLike(t, what+": there and back", wantCall(t, what, "ReadMessage", asked{Text: got.Text}), answer{Msg: m})
	}
	return got
}

func wantReadMessage(t *testing.T, what, s string) answer {
	t.Helper()
	got := wantCall(t, what, "ReadMessage", asked{Text: s})
	if got.Err == 0 {
		wantLike(t, what+": read and written", wantCall(t, what, "Message", asked{Msg: got.Msg}), answer{Text: s})
	}
	return got
}

func wantCheck(t *testing.T, what string, h api.Hard, want api.Errno) {
	t.Helper()
	wantErr(t, what, wantCall(t, what, "Check", asked{Now: h}), want)
}

func wantOpen(t *testing.T, what string, d api.Disk, first api.Set) answer {
	t.Helper()
	return wantCall(t, what, "Open", asked{Disk: d, Set: first})
}

func wantSave(t *testing.T, what string, d api.Disk, was, now api.Hard) answer {
	t.Helper()
	return wantCall(t, what, "Save", asked{Disk: d, Was: was, Now: now})
}
