// Package wire is layer 1: numbers, fields, sums and frames as bytes. See shared/doc/01-wire.md.
package wire

import "tandem/api"

const (
	shortSize = 4
	numSize   = 8
	headSize  = 2 * shortSize // a frame's length and sum
	overhead  = headSize + 1  // a frame's bytes beside its string

	// A lost write leaves a nought in a frame's last place, never this.
	lastByte = 0xff

	// What the sum takes in where a bit 1 drops out of it.
	taken = 0xedb88320
)

// Num: n as eight bytes, the least first.
func Num(n uint64) string {
	b := make([]byte, numSize)
	for i := range b {
		b[i] = byte(n >> (8 * i))
	}
	return string(b)
}

// ReadNum: the number of eight bytes.
func ReadNum(s string) (uint64, api.Errno) {
	if len(s) != numSize {
		return 0, api.ErrBytes
	}
	var n uint64
	for i := range numSize {
		n |= uint64(s[i]) << (8 * i)
	}
	return n, api.OK
}

// short: n as four bytes, the least first.
func short(n uint32) string {
	return string([]byte{byte(n), byte(n >> 8), byte(n >> 16), byte(n >> 24)})
}

// readShort: the number of the first four bytes of s, which has to have them.
func readShort(s string) uint32 {
	return uint32(s[0]) | uint32(s[1])<<8 | uint32(s[2])<<16 | uint32(s[3])<<24
}

// Pack: the fields as one string, of which Unpack tells them again.
func Pack(fields ...string) (string, api.Errno) {
	size, ok := packed(fields)
	if !ok {
		return "", api.ErrLong
	}
	b := make([]byte, 0, size)
	b = append(b, short(uint32(len(fields)))...)
	for _, f := range fields {
		b = append(b, short(uint32(len(f)))...)
		b = append(b, f...)
	}
	return string(b), api.OK
}

// packed: how many bytes Pack makes of the fields, and whether it may.
func packed(fields []string) (int, bool) {
	if len(fields) > api.MaxFields {
		return 0, false
	}
	size := shortSize
	for _, f := range fields {
		if len(f) > api.MaxField {
			return 0, false
		}
		size += shortSize + len(f)
	}
	return size, size <= api.MaxBytes
}

// Unpack: the fields of which s is Pack.
func Unpack(s string) ([]string, api.Errno) {
	if len(s) < shortSize || len(s) > api.MaxBytes {
		return nil, api.ErrBytes
	}
	count := readShort(s)
	if count > api.MaxFields {
		return nil, api.ErrBytes
	}
	fields := make([]string, 0, count)
	rest := s[shortSize:]
	for range count {
		f, ok := firstField(rest)
		if !ok {
			return nil, api.ErrBytes
		}
		fields = append(fields, f)
		rest = rest[shortSize+len(f):]
	}
	if rest != "" {
		return nil, api.ErrBytes
	}
	return fields, api.OK
}

// firstField: the field whose length and bytes s begins with; false: none does.
func firstField(s string) (string, bool) {
	if len(s) < shortSize {
		return "", false
	}
	// Held against the limit ahead of int, which may have no room for it.
	size := readShort(s)
	if size > api.MaxField || int(size) > len(s)-shortSize {
		return "", false
	}
	return s[shortSize : shortSize+int(size)], true
}

// Sum: the sum of all bytes of the parts, one behind the other.
func Sum(parts ...string) uint32 {
	n := ^uint32(0)
	for _, p := range parts {
		for i := range len(p) {
			n = stir(n ^ uint32(p[i]))
		}
	}
	return ^n
}

// stir: the eight turns of the sum that follow each byte.
func stir(n uint32) uint32 {
	for range 8 {
		n = n>>1 ^ (n&1)*taken
	}
	return n
}

// Frame: s with its length, its sum, and the byte that ends it.
func Frame(s string) (string, api.Errno) {
	if len(s) > api.MaxField {
		return "", api.ErrLong
	}
	size := short(uint32(len(s)))
	b := make([]byte, 0, overhead+len(s))
	b = append(b, size...)
	b = append(b, short(Sum(size, s))...)
	b = append(b, s...)
	return string(append(b, lastByte)), api.OK
}

// Scan: the strings of the whole frames that s begins with, and how many bytes these frames are.
func Scan(s string) ([]string, int) {
	var list []string
	at := 0
	for {
		one, ok := firstFrame(s[at:])
		if !ok {
			return list, at
		}
		list = append(list, one)
		at += overhead + len(one)
	}
}

// firstFrame: the string of the whole frame that s begins with; false: it begins with none.
func firstFrame(s string) (string, bool) {
	if len(s) < overhead {
		return "", false
	}
	// Held against the limit ahead of int, which may have no room for it.
	size := readShort(s)
	if size > api.MaxField || int(size) > len(s)-overhead {
		return "", false
	}
	last := headSize + int(size)
	one := s[headSize:last]
	if s[last] != lastByte || readShort(s[shortSize:]) != Sum(s[:shortSize], one) {
		return "", false
	}
	return one, true
}
