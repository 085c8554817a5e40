// Package utf is layer 1: see shared/doc/01-utf.md.
package utf

import "unicode/utf8"

// Valid tells whether b is characters' bytes, one behind the other.
func Valid(b []byte) bool { return utf8.Valid(b) }

// Chars answers the characters of b; nothing, false, if b isn't valid.
func Chars(b []byte) ([]rune, bool) {
	// The conversion puts FFFD where bytes are wrong, which a reader couldn't tell
	// from an FFFD that stands there: so wrong bytes are turned away ahead of it.
	if !Valid(b) {
		return nil, false
	}
	return []rune(string(b)), true
}

// Bytes answers the bytes of all of l; nothing, false, if one is no character.
func Bytes(l ...rune) ([]byte, bool) {
	var b []byte
	for _, r := range l {
		if !utf8.ValidRune(r) {
			return nil, false
		}
		b = utf8.AppendRune(b, r)
	}
	return b, true
}

// Xml tells whether XML lets the character r stand in a document.
func Xml(r rune) bool {
	switch {
	case r == 0x9, r == 0xA, r == 0xD:
		return true
	case 0x20 <= r && r <= 0xD7FF:
		return true
	case 0xE000 <= r && r <= 0xFFFD:
		return true
	}
	return 0x10000 <= r && r <= 0x10FFFF
}

// Text tells whether b is valid, and all its characters are XML's.
func Text(b []byte) bool {
	if !Valid(b) {
		return false
	}
	for _, r := range string(b) {
		if !Xml(r) {
			return false
		}
	}
	return true
}
