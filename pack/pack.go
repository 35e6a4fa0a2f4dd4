// Package pack is layer 1: integers and strings as bytes.
package pack

import (
	"math/bits"
	"strings"

	"weirkeeper/api"
)

// maxSize is that of the greatest numbers there are; headSize is that of a
// text's length, and just holds api.MaxText.
const (
	maxSize  = 8
	headSize = 2
)

func rightSize(size int) bool {
	return size >= 1 && size <= maxSize
}

// Num answers the bytes of n, size of them, the highest first.
func Num(n uint64, size int) (string, api.Errno) {
	if !rightSize(size) || bits.Len64(n) > 8*size {
		return "", api.ErrArg
	}
	b := make([]byte, size)
	for i := size - 1; i >= 0; i-- {
		b[i] = byte(n)
		n >>= 8
	}
	return string(b), api.OK
}

// Take answers the number that the first size bytes of s are, and the rest.
func Take(s string, size int) (uint64, string, api.Errno) {
	if !rightSize(size) {
		return 0, "", api.ErrArg
	}
	if len(s) < size {
		return 0, "", api.ErrForm
	}
	var n uint64
	for i := range size {
		n = n<<8 | uint64(s[i])
	}
	return n, s[size:], api.OK
}

// Text answers the bytes of t: its length, and then it.
func Text(t string) (string, api.Errno) {
	if len(t) > api.MaxText {
		return "", api.ErrArg
	}
	head, e := Num(uint64(len(t)), headSize)
	if e != api.OK {
		return "", e
	}
	return head + t, api.OK
}

// TakeText answers the text whose bytes s begins with, and the rest.
func TakeText(s string) (string, string, api.Errno) {
	n, rest, e := Take(s, headSize)
	if e != api.OK {
		return "", "", e
	}
	size := int(n)
	if len(rest) < size {
		return "", "", api.ErrForm
	}
	return rest[:size], rest[size:], api.OK
}

// Texts answers the bytes of all texts of l, one behind the other.
func Texts(l ...string) (string, api.Errno) {
	var all strings.Builder
	for _, t := range l {
		s, e := Text(t)
		if e != api.OK {
			return "", e
		}
		all.WriteString(s)
	}
	return all.String(), api.OK
}

// Parts answers the texts of which s is Texts.
func Parts(s string) ([]string, api.Errno) {
	var l []string
	for s != "" {
		t, rest, e := TakeText(s)
		if e != api.OK {
			return nil, e
		}
		l = append(l, t)
		s = rest
	}
	return l, api.OK
}
