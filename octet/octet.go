// Package octet is numbers and bytes, the highest byte first.
package octet

import (
	"slices"

	"assayer/api"
)

const (
	maxNum   = 8     // bytes of the greatest number
	lenSize  = 2     // bytes in which it is told how many bytes follow
	maxBytes = 65535 // the greatest number that lenSize bytes tell
)

// Writer puts numbers and bytes.
type Writer struct {
	out []byte
}

// NewWriter is one that has put nothing.
func NewWriter() *Writer { return &Writer{} }

// Num puts a number in so many bytes.
func (w *Writer) Num(x uint64, size int) {
	if w == nil || !isNumSize(size) {
		return
	}
	for i := range size {
		w.out = append(w.out, byte(x>>(8*(size-1-i))))
	}
}

// Raw puts bytes as they are.
func (w *Writer) Raw(b []byte) {
	if w == nil {
		return
	}
	w.out = append(w.out, b...)
}

// Bytes puts bytes, with how many they are in two bytes.
func (w *Writer) Bytes(b []byte) {
	n := min(len(b), maxBytes)
	w.Num(uint64(n), lenSize)
	w.Raw(b[:n:n])
}

// Hash puts a hash.
func (w *Writer) Hash(h api.Hash) { w.Raw(h[:]) }

// Out is all that was put.
func (w *Writer) Out() []byte {
	if w == nil {
		return nil
	}
	return slices.Clone(w.out)
}

// Reader reads numbers and bytes.
type Reader struct {
	left []byte
	err  api.Errno
}

// NewReader is one of bytes.
func NewReader(b []byte) *Reader {
	// A copy: whoever hands bytes in may change them while they are still read.
	return &Reader{left: slices.Clone(b)}
}

// Num reads a number of so many bytes.
func (r *Reader) Num(size int) uint64 {
	if !isNumSize(size) {
		r.fail(api.ErrArg)
		return 0
	}
	var x uint64
	for _, c := range r.take(size) {
		x = x<<8 | uint64(c)
	}
	return x
}

// Raw reads so many bytes.
func (r *Reader) Raw(n int) []byte {
	if n < 0 {
		r.fail(api.ErrArg)
		return nil
	}
	return slices.Clone(r.take(n))
}

// Bytes reads bytes, so many at most.
func (r *Reader) Bytes(most int) []byte {
	n := int(r.Num(lenSize))
	if n > most {
		// An error of Num, being the first, is not replaced.
		r.fail(api.ErrBig)
		return nil
	}
	return r.Raw(n)
}

// Hash reads a hash.
func (r *Reader) Hash() api.Hash {
	var h api.Hash
	copy(h[:], r.take(len(h)))
	return h
}

// Err is the first error.
func (r *Reader) Err() api.Errno {
	if r == nil {
		return api.ErrArg
	}
	return r.err
}

// End is the first error; ErrLeft, if bytes are left.
func (r *Reader) End() api.Errno {
	if err := r.Err(); err != api.OK {
		return err
	}
	if len(r.left) > 0 {
		return api.ErrLeft
	}
	return api.OK
}

// take cuts n bytes (n is not below 0) off what is left, with no room behind
// them, so that nobody who appends to them reaches what is read later.
func (r *Reader) take(n int) []byte {
	if r.Err() != api.OK {
		return nil
	}
	if n > len(r.left) {
		r.fail(api.ErrShort)
		return nil
	}
	cut := r.left[:n:n]
	r.left = r.left[n:]
	return cut
}

// fail keeps an error, unless there is one already.
func (r *Reader) fail(err api.Errno) {
	if r.Err() == api.OK {
		r.err = err
	}
}

func isNumSize(size int) bool { return size >= 1 && size <= maxNum }
