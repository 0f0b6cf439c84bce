// Package runes is layer 1: see shared/doc/01-runes.md.
package runes

// The greatest sign, and the numbers below it that are none.
const (
	greatest  = 0x10FFFF
	firstHole = 0xD800
	lastHole  = 0xDFFF
)

// Each byte behind a sign's first one is follow and six bits, so below follow+step.
const (
	follow = 0x80
	step   = 0x40
)

// lead has, at each size, the leading bits of the first byte of a sign of so many bytes. No sign has the size 0.
var lead = [5]int{0, 0x00, 0xC0, 0xE0, 0xF0}

// First: the sign at the beginning of a text; how many bytes it has.
func First(s string) (int, int, bool) {
	if s == "" {
		return 0, 0, false
	}
	size := claimed(int(s[0]))
	if len(s) < size {
		return 0, 0, false
	}
	sign := int(s[0]) - lead[size]
	for i := 1; i < size; i++ {
		six := int(s[i]) - follow
		if six < 0 || six >= step {
			return 0, 0, false
		}
		sign = sign*step + six
	}
	// One check for all that is left: bytes that begin no sign, a sign in more bytes than its own, and numbers that are no signs, all have another size than the one claimed.
	if sizeOf(sign) != size {
		return 0, 0, false
	}
	return sign, size, true
}

// Text: a sign's bytes.
func Text(sign int) (string, bool) {
	size := sizeOf(sign)
	if size == 0 {
		return "", false
	}
	text := make([]byte, size)
	for i := size - 1; i > 0; i-- {
		text[i] = byte(follow + sign%step)
		sign /= step
	}
	text[0] = byte(lead[size] + sign)
	return string(text), true
}

// All: the signs of a text; where the first byte is that begins none.
func All(s string) ([]int, int, bool) {
	count, end := scan(s)
	if end < len(s) {
		return nil, end, false
	}
	signs := make([]int, count)
	at := 0
	for i := range signs {
		sign, size, _ := First(s[at:])
		signs[i] = sign
		at += size
	}
	return signs, end, true
}

// Right: has a text signs alone?
func Right(s string) bool {
	_, end := scan(s)
	return end == len(s)
}

// scan: how many signs stand one behind the other from the beginning of a text on, and where they end.
func scan(s string) (int, int) {
	count, at := 0, 0
	for at < len(s) {
		_, size, ok := First(s[at:])
		if !ok {
			break
		}
		count++
		at += size
	}
	return count, at
}

// claimed: the size of the sign that a first byte's leading bits speak of. Whether there is such a sign is not said by them alone.
func claimed(first int) int {
	size := len(lead) - 1
	for size > 1 && first < lead[size] {
		size--
	}
	return size
}

// sizeOf: how many bytes a sign has; 0 of a number that is no sign.
func sizeOf(sign int) int {
	switch {
	case sign < 0 || sign > greatest || firstHole <= sign && sign <= lastHole:
		return 0
	case sign < 0x80:
		return 1
	case sign < 0x800:
		return 2
	case sign < 0x10000:
		return 3
	}
	return 4
}
