// Package sign is layer 1, bytes as signs: see shared/doc/01-sign.md.
package sign

import (
	"strings"
	"unicode/utf8"
)

const (
	noSign    = 65533   // told in place of what is no character
	lastSign  = 1114111 // the greatest character
	firstHalf = 55296   // from here up to lastHalf stand halves of pairs, which are no characters
	lastHalf  = 57343
	firstFar  = 192 // the first letter behind z
	lastFar   = 591
	times     = 215 // two signs that stand among the far letters and are none
	divide    = 247
	lastUpper = 222 // the last far letter that is folded
	toLower   = 32  // what a folded letter is more
)

// Signs is the signs of bytes.
func Signs(s string) []int {
	l := make([]int, 0, utf8.RuneCountInString(s))
	for _, r := range s {
		l = append(l, int(r))
	}
	return l
}

// Text is the text of characters.
func Text(l []int) string {
	var b strings.Builder
	for _, c := range l {
		b.WriteRune(whole(c))
	}
	return b.String()
}

// whole asks the int, not a rune made of it: that would lose what stands above 32 bits.
func whole(c int) rune {
	if c < 0 || c > lastSign || c >= firstHalf && c <= lastHalf {
		return noSign
	}
	return rune(c)
}

// Letter tells whether a character is a letter.
func Letter(c int) bool {
	if c >= firstFar {
		return c <= lastFar && c != times && c != divide
	}
	return c >= 'a' && c <= 'z' || c >= 'A' && c <= 'Z'
}

// Digit tells whether a character is a digit.
func Digit(c int) bool {
	return c >= '0' && c <= '9'
}

// Fold is a character, folded.
func Fold(c int) int {
	if c >= 'A' && c <= 'Z' || c >= firstFar && c <= lastUpper && c != times {
		return c + toLower
	}
	return c
}

// FoldText is the text of a text's signs, each folded.
func FoldText(s string) string {
	var b strings.Builder
	b.Grow(len(s))
	for _, r := range s {
		b.WriteRune(rune(Fold(int(r))))
	}
	return b.String()
}
