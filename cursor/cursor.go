// Package cursor is layer 1: see shared/doc/01-cursor.md.
package cursor

import (
	"strings"

	"taffrail/api"
)

// Reader reads bytes, from the first one on.
type Reader struct {
	text string
	at   int // from 0 to len(text)
}

// Writer takes bytes, one behind the other; its zero value has none.
type Writer struct {
	// Not a strings.Builder: that one panics when a copy of it is written to.
	bytes []byte
}

// New: a reader of these bytes, at the first one.
func New(s string) *Reader { return &Reader{text: s} }

// At: at which place it stands.
func (r *Reader) At() int {
	if r == nil {
		return 0
	}
	return r.at
}

// Left: how many bytes follow.
func (r *Reader) Left() int { return len(r.rest()) }

// Byte: the next byte.
func (r *Reader) Byte() (byte, api.Errno) {
	if r == nil {
		return 0, api.ErrNil
	}
	if r.Left() == 0 {
		return 0, api.ErrEnd
	}
	b := r.text[r.at]
	r.at++
	return b, api.OK
}

// Take: the next n bytes.
func (r *Reader) Take(n int) (string, api.Errno) {
	if r == nil {
		return "", api.ErrNil
	}
	if n < 0 {
		return "", api.ErrArg
	}
	// Held against what is left, not added to the place: a great n would wrap round.
	if n > r.Left() {
		return "", api.ErrEnd
	}
	s := r.rest()[:n]
	r.at += n
	return s, api.OK
}

// Seek: it stands there.
func (r *Reader) Seek(at int) api.Errno {
	if r == nil {
		return api.ErrNil
	}
	if at < 0 || at > len(r.text) {
		return api.ErrArg
	}
	r.at = at
	return api.OK
}

// Agree: with how many bytes of t it goes on.
func (r *Reader) Agree(t string) int {
	rest := r.rest()
	k := 0
	for k < len(t) && k < len(rest) && t[k] == rest[k] {
		k++
	}
	return k
}

// Find: where t stands next.
func (r *Reader) Find(t string) int {
	// A nil reader has no place of its own at which the empty text could stand.
	if r == nil {
		return -1
	}
	ahead := strings.Index(r.rest(), t)
	if ahead < 0 {
		return -1
	}
	return r.at + ahead
}

// rest: the bytes behind its place; of a nil reader none.
func (r *Reader) rest() string {
	if r == nil {
		return ""
	}
	return r.text[r.at:]
}

// Put: these bytes.
func (w *Writer) Put(b ...byte) {
	if w == nil {
		return
	}
	w.bytes = append(w.bytes, b...)
}

// Text: these bytes.
func (w *Writer) Text(s string) {
	if w == nil {
		return
	}
	w.bytes = append(w.bytes, s...)
}

// Len: how many there are.
func (w *Writer) Len() int {
	if w == nil {
		return 0
	}
	return len(w.bytes)
}

// String: all of them.
func (w *Writer) String() string {
	if w == nil {
		return ""
	}
	return string(w.bytes)
}
