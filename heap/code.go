package heap

import (
	"math"

	"hindsight/api"
	"hindsight/word"
)

const wordBytes = 8

// Put returns the encoding of a heap.
func (h *Heap) Put() []byte {
	b := make([]byte, 0, (len(h.words)+2)*wordBytes)
	b = put(b, uint64(h.room))
	b = put(b, uint64(h.turns))
	for _, w := range h.words {
		b = put(b, uint64(w))
	}
	return b
}

func put(b []byte, n uint64) []byte {
	return append(b, byte(n>>56), byte(n>>48), byte(n>>40), byte(n>>32), byte(n>>24), byte(n>>16), byte(n>>8), byte(n))
}

func get(b []byte, i int) uint64 {
	n := uint64(0)
	for _, c := range b[i*wordBytes : (i+1)*wordBytes] {
		n = n<<8 | uint64(c)
	}
	return n
}

// Load returns the heap that has the encoding b.
func Load(b []byte) (*Heap, api.Errno) {
	many := len(b)/wordBytes - 2
	if len(b)%wordBytes != 0 || many < 0 {
		return nil, api.EFORM
	}
	room, turns := get(b, 0), get(b, 1)
	if room < leastRoom || room > api.MaxHeap || uint64(many) > room || turns > math.MaxInt64 {
		return nil, api.EFORM
	}
	h := &Heap{room: int(room), turns: int(turns), words: make([]word.Word, many), starts: make([]bool, many)}
	for i := range h.words {
		h.words[i] = word.Word(get(b, i+2))
	}
	if !h.sound() {
		return nil, api.EFORM
	}
	return h, api.OK
}

// sound finds where the objects begin, and reports whether the words are objects without gaps whose
// references refer to objects.
func (h *Heap) sound() bool {
	for at := 0; at < len(h.words); {
		_, _, size, ok := word.Split(h.words[at])
		if !ok || size >= len(h.words)-at {
			return false
		}
		h.starts[at] = true
		at += size + 1
	}
	for i, w := range h.words {
		if !h.starts[i] && !h.fits(w) {
			return false
		}
	}
	return true
}
