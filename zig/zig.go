// Package zig writes integers and texts as bytes, and reads them back. It is layer 1.
package zig

import (
	"math/bits"
	"strings"

	"strandline/api"
)

const (
	groupBits  = 7
	more       = 1 << groupBits // set in a byte behind which one more group follows
	mostGroups = 10             // what 64 bits take
	lastBits   = 1              // what the last one of mostGroups holds of the 64
)

// Uint has as few groups as can be, so that there is one text only of each integer.
func Uint(n uint64) string {
	count := groups(n)
	b := make([]byte, count)
	for i := range count {
		b[i] = byte(n>>(groupBits*i)) | more
	}
	b[count-1] &^= more
	return string(b)
}

// groups tells how many groups n takes: one at least, so that 0 has a byte too.
func groups(n uint64) int {
	return (bits.Len64(n|1) + groupBits - 1) / groupBits
}

// Int tells n as Uint of its Fold, so that integers near 0 are short on both sides of it.
func Int(n int) string {
	return Uint(Fold(n))
}

// Text has the length ahead, so that s may be of any bytes.
func Text(s string) string {
	return Uint(uint64(len(s))) + s
}

// GetUint tells the place behind, too, so that what stands in a row can be read one by one.
func GetUint(s string, at int) (uint64, int, api.Errno) {
	if at < 0 || at > len(s) {
		return 0, 0, api.ErrArg
	}
	n := uint64(0)
	for i := range mostGroups {
		if at+i == len(s) {
			return 0, 0, api.ErrShort
		}
		group := s[at+i]
		n |= uint64(group&^more) << (groupBits * i)
		if group&more != 0 {
			continue
		}
		if !mayEnd(i, group) {
			return 0, 0, api.ErrForm
		}
		return n, at + i + 1, api.OK
	}
	return 0, 0, api.ErrForm
}

// mayEnd tells whether Uint could have written the group as the last one, at the place i. Were an empty one taken there, or bits beyond the 64, one integer would have several texts.
func mayEnd(i int, group byte) bool {
	if i == mostGroups-1 && group>>lastBits != 0 {
		return false
	}
	return i == 0 || group != 0
}

func GetInt(s string, at int) (int, int, api.Errno) {
	n, end, e := GetUint(s, at)
	if e != api.OK {
		return 0, 0, e
	}
	return Unfold(n), end, api.OK
}

func GetText(s string, at int) (string, int, api.Errno) {
	n, from, e := GetUint(s, at)
	if e != api.OK {
		return "", 0, e
	}
	if n > uint64(len(s)-from) { // as unsigned: a length beyond int is too long, not below 0
		return "", 0, api.ErrShort
	}
	end := from + int(n)
	return strings.Clone(s[from:end]), end, api.OK // a piece of s would share its memory
}

// Fold lays the integers below 0 between the others: 0, -1, 1, -2 become 0, 1, 2, 3.
func Fold(n int) uint64 {
	if n < 0 {
		return ^(uint64(n) << 1) // -2 n - 1, without a step beyond 64 bits
	}
	return uint64(n) << 1
}

// Unfold turns Fold round.
func Unfold(n uint64) int {
	if n&1 != 0 {
		return int(^(n >> 1))
	}
	return int(n >> 1)
}
