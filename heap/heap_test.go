package heap

import (
	"bytes"
	"math"
	"slices"
	"testing"

	"hindsight/api"
	"hindsight/word"
)

func num(n int64) word.Word { return word.Num(n) }

func fresh(t *testing.T, room int) *Heap {
	t.Helper()
	h, err := New(room)
	if err != api.OK {
		t.Fatal(err)
	}
	return h
}

func make1(t *testing.T, h *Heap, kind, tag int, l ...word.Word) word.Word {
	t.Helper()
	p, err := h.Make(kind, tag, l...)
	if err != api.OK {
		t.Fatal(err)
	}
	return p
}

func TestNew(t *testing.T) {
	for room, want := range map[int]api.Errno{15: api.EARG, 16: api.OK, api.MaxHeap: api.OK, api.MaxHeap + 1: api.EARG, -1: api.EARG, math.MaxInt: api.EARG} {
		h, err := New(room)
		if err != want || (h == nil) != (err != api.OK) {
			t.Errorf("P12.1: New(%d) returns %d", room, err)
		}
		if h != nil && (h.Used() != 0 || h.Room() != room || h.Turns() != 0) {
			t.Errorf("P12.1: New(%d) is not empty", room)
		}
	}
}

func TestMake(t *testing.T) {
	h := fresh(t, 16)
	a := make1(t, h, 1, 200, num(1), num(-2))
	b := make1(t, h, 3, 0, a)
	if a != word.Ptr(0) || b != word.Ptr(3) || h.Used() != 5 {
		t.Errorf("P12.1: the objects stand at %d and %d, Used is %d", a, b, h.Used())
	}
	for i, c := range []struct {
		kind, tag int
		words     []word.Word
		want      api.Errno
	}{
		{0, 0, nil, api.EARG}, {4, 0, nil, api.EARG}, {1, 256, nil, api.EARG}, {1, -1, nil, api.EARG}, {1, 0, make([]word.Word, 65536), api.EARG},
		{1, 0, []word.Word{word.Ptr(1)}, api.EARG}, {1, 0, []word.Word{word.Ptr(2)}, api.EARG}, {1, 0, []word.Word{word.Ptr(5)}, api.EARG},
		{1, 0, []word.Word{1 << 40}, api.EARG}, {1, 0, slices.Repeat([]word.Word{1}, 11), api.EHEAP},
		{1, 0, append(slices.Repeat([]word.Word{1}, 11), 4), api.EARG}, {1, 0, slices.Repeat([]word.Word{1}, 10), api.OK}, {1, 0, nil, api.EHEAP},
		{0, 0, nil, api.EARG},
	} {
		p, err := h.Make(c.kind, c.tag, c.words...)
		if err != c.want || err != api.OK && p != 0 {
			t.Errorf("P12.1: number %d: Make returns %d, %d", i, p, err)
		}
	}
	if h.Used() != 16 || h.Turns() != 0 {
		t.Errorf("P12.1: Used is %d", h.Used())
	}
	if k, g, s, err := h.Head(a); k != 1 || g != 200 || s != 2 || err != api.OK {
		t.Errorf("P12.1: Head is %d, %d, %d, %d", k, g, s, err)
	}
}

func TestGetAndSet(t *testing.T) {
	h := fresh(t, 20)
	head, _ := word.Head(1, 0, 1)
	a := make1(t, h, 1, 0, head, num(5))
	b := make1(t, h, 2, 1, a)
	for i, c := range []struct {
		p    word.Word
		i    int
		w    word.Word
		want api.Errno
	}{
		{a, 0, head, api.OK}, {a, 1, num(5), api.OK}, {b, 0, a, api.OK}, {a, 2, 0, api.EARG}, {a, -1, 0, api.EARG}, {b, 1, 0, api.EARG},
		{word.Ptr(1), 0, 0, api.ENONE}, {word.Ptr(5), 0, 0, api.ENONE}, {num(0), 0, 0, api.ENONE}, {1 << 50, 0, 0, api.ENONE}, {num(0), -1, 0, api.ENONE},
	} {
		if w, err := h.Get(c.p, c.i); w != c.w || err != c.want {
			t.Errorf("P12.1: number %d: Get returns %d, %d", i, w, err)
		}
	}
	for i, c := range []struct {
		p    word.Word
		i    int
		w    word.Word
		want api.Errno
	}{
		{a, 1, b, api.OK}, {a, 1, word.Ptr(1), api.EARG}, {a, 1, word.Ptr(5), api.EARG}, {a, 2, num(1), api.EARG}, {a, -1, num(1), api.EARG},
		{word.Ptr(1), 0, num(1), api.ENONE}, {num(3), 0, num(1), api.ENONE}, {word.Ptr(1), 9, 4, api.ENONE}, {b, 0, num(9), api.OK},
	} {
		if err := h.Set(c.p, c.i, c.w); err != c.want {
			t.Errorf("P12.1: number %d: Set returns %d", i, err)
		}
	}
	if w, _ := h.Get(a, 1); w != b {
		t.Errorf("P12.1: Set leaves %d", w)
	}
	if _, _, _, err := h.Head(word.Ptr(2)); err != api.ENONE {
		t.Errorf("P12.1: Head returns %d", err)
	}
}

func TestCollect(t *testing.T) {
	h := fresh(t, 64)
	x := make1(t, h, 1, 1, num(10))
	gone := make1(t, h, 1, 2, x, x)
	y := make1(t, h, 1, 3, x)
	z := make1(t, h, 3, 4, y, gone, num(7))
	h.Set(z, 1, z) // a ring; nothing refers to gone any more
	w := make1(t, h, 2, 5, z, x)
	list := []word.Word{num(3), w, y, w, word.Ptr(1), word.Ptr(99), 1 << 60}
	roots := h.Collect(list...)
	// The order is w, y (roots), z, x (in w); y is there already.
	want := []word.Word{num(3), word.Ptr(0), word.Ptr(3), word.Ptr(0), word.Ptr(1), word.Ptr(99), 1 << 60}
	if !slices.Equal(roots, want) || list[1] != w {
		t.Errorf("P12.2: the roots are %v, want %v", roots, want)
	}
	if h.Used() != 3+2+4+2 || h.Turns() != 1 {
		t.Errorf("P12.2: Used is %d, Turns is %d", h.Used(), h.Turns())
	}
	for at, tag := range map[int]int{0: 5, 3: 3, 5: 4, 9: 1} {
		if _, g, _, err := h.Head(word.Ptr(at)); g != tag || err != api.OK {
			t.Errorf("P12.2: the object at %d has the tag %d", at, g)
		}
	}
	for _, c := range []struct {
		at, i int
		w     word.Word
	}{{0, 0, word.Ptr(5)}, {0, 1, word.Ptr(9)}, {3, 0, word.Ptr(9)}, {5, 0, word.Ptr(3)}, {5, 1, word.Ptr(5)}, {5, 2, num(7)}, {9, 0, num(10)}} {
		if got, _ := h.Get(word.Ptr(c.at), c.i); got != c.w {
			t.Errorf("P12.2: word %d at %d is %d, want %d", c.i, c.at, got, c.w)
		}
	}
	if len(h.Collect()) != 0 || h.Used() != 0 || h.Turns() != 2 || h.Room() != 64 {
		t.Error("P12.2: Collect without roots")
	}
}

// wordsOf returns all words of a heap as one list, headers too.
func wordsOf(h *Heap) []word.Word {
	b := h.Put()
	l := make([]word.Word, len(b)/wordBytes-2)
	for i := range l {
		l[i] = word.Word(get(b, i+2))
	}
	return l
}

func header(t *testing.T, kind, tag, size int) word.Word {
	t.Helper()
	w, ok := word.Head(kind, tag, size)
	if !ok {
		t.Fatal("no header")
	}
	return w
}

func TestCollectMovesWhatAnObjectRefersTo(t *testing.T) {
	h := fresh(t, 100)
	a := make1(t, h, 1, 7, num(5))
	b := make1(t, h, 1, 8, a)
	roots := h.Collect(b)
	if w, err := h.Get(word.Ptr(0), 0); w != word.Ptr(2) || err != api.OK {
		t.Errorf("P12.2: the reference is %d, %d", w, err)
	}
	want := []word.Word{header(t, 1, 8, 1), word.Ptr(2), header(t, 1, 7, 1), num(5)}
	if !slices.Equal(roots, []word.Word{word.Ptr(0)}) || !slices.Equal(wordsOf(h), want) {
		t.Errorf("P12.2: the roots are %v, the words %v", roots, wordsOf(h))
	}
}

func TestCollectWithoutRoots(t *testing.T) {
	h := fresh(t, 100)
	a := make1(t, h, 1, 7, num(5))
	make1(t, h, 1, 8, a)
	if roots := h.Collect(); len(roots) != 0 || h.Used() != 0 || h.Turns() != 1 {
		t.Errorf("P12.2: the roots are %v, Used is %d, Turns is %d", roots, h.Used(), h.Turns())
	}
	if _, err := h.Get(word.Ptr(0), 0); err != api.ENONE {
		t.Errorf("P12.2: Get of a freed object returns %d", err)
	}
	if p := make1(t, h, 1, 9); p != word.Ptr(0) {
		t.Errorf("P12.2: the first object after Collect is %d", p)
	}
}

func TestCollectMovesTwoThatAnObjectRefersTo(t *testing.T) {
	h := fresh(t, 100)
	a := make1(t, h, 1, 7, num(5))
	b := make1(t, h, 2, 8, a, num(6))
	c := make1(t, h, 3, 9, b, a)
	roots := h.Collect(c)
	want := []word.Word{
		header(t, 3, 9, 2), word.Ptr(3), word.Ptr(6),
		header(t, 2, 8, 2), word.Ptr(6), num(6),
		header(t, 1, 7, 1), num(5),
	}
	if !slices.Equal(roots, []word.Word{word.Ptr(0)}) || !slices.Equal(wordsOf(h), want) {
		t.Errorf("P12.2: the roots are %v, the words %v", roots, wordsOf(h))
	}
}

// Chains and stars of all sizes: each word is adjusted at some size just when the new heap is full.
func TestCollectAdjustsAtEachSize(t *testing.T) {
	for many := 1; many <= 70; many++ {
		chain, star := fresh(t, 1000), fresh(t, 1000)
		p := make1(t, chain, 1, 0, num(0))
		leaves := []word.Word{make1(t, star, 1, 0, num(0))}
		for i := 1; i < many; i++ {
			p = make1(t, chain, 1, i, p)
			leaves = append(leaves, make1(t, star, 1, i, num(int64(i))))
		}
		hub := make1(t, star, 2, 0, leaves...)
		chain.Collect(p)
		star.Collect(hub)
		links, spokes := []word.Word{}, []word.Word{header(t, 2, 0, many)}
		for i := range many {
			links = append(links, header(t, 1, many-1-i, 1), word.Ptr(2*i+2))
			spokes = append(spokes, word.Ptr(many+1+2*i))
		}
		links[len(links)-1] = num(0)
		for i := range many {
			spokes = append(spokes, header(t, 1, i, 1), num(int64(i)))
		}
		if !slices.Equal(wordsOf(chain), links) {
			t.Errorf("P12.2: a chain of %d is %v", many, wordsOf(chain))
		}
		if !slices.Equal(wordsOf(star), spokes) {
			t.Errorf("P12.2: a star of %d is %v", many, wordsOf(star))
		}
	}
}

func TestPutAndLoad(t *testing.T) {
	h := fresh(t, 20)
	a := make1(t, h, 1, 9, num(-1))
	make1(t, h, 3, 0, a)
	h.Collect(a)
	b := h.Put()
	want := []byte{0, 0, 0, 0, 0, 0, 0, 20, 0, 0, 0, 0, 0, 0, 0, 1, 0, 0, 0, 0, 2, 18, 0, 3, 255, 255, 255, 255, 255, 255, 255, 255}
	if !bytes.Equal(b, want) {
		t.Errorf("P12.2: Put is %v", b)
	}
	c, err := Load(b)
	if err != api.OK || !bytes.Equal(c.Put(), b) || c.Room() != 20 || c.Turns() != 1 || c.Used() != 2 {
		t.Errorf("P12.2: Load returns %d", err)
	}
	if p, err := c.Make(1, 0, word.Ptr(0)); p != word.Ptr(2) || err != api.OK || h.Used() != 2 {
		t.Errorf("P12.2: the loaded heap makes %d, %d", p, err)
	}
	with := func(i int, v byte) []byte {
		l := bytes.Clone(want)
		l[i] = v
		return l
	}
	for i, bad := range [][]byte{
		nil, want[:8], want[:31], append(bytes.Clone(want), 0), append(bytes.Clone(want), make([]byte, 8)...), want[:24],
		with(7, 15), with(5, 2), with(8, 128), with(20, 0), with(21, 17), with(23, 5), with(16, 128), with(31, 254),
		append(bytes.Clone(want[:24]), 0, 0, 0, 0, 0, 0, 0, 2),
	} {
		if h, err := Load(bad); err != api.EFORM || h != nil {
			t.Errorf("P12.2: number %d: Load returns %d", i, err)
		}
	}
	ok := with(8, 127)
	for i := 9; i < 16; i++ {
		ok[i] = 255
	}
	c, err = Load(ok)
	if err != api.OK || c.Turns() != math.MaxInt64 {
		t.Errorf("P12.2: Load with the greatest Turns returns %d", err)
	}
	c.Collect()
	if _, err := Load(c.Put()); err != api.OK {
		t.Error("P12.2: Turns beyond the greatest")
	}
	if _, err := Load(append(bytes.Clone(want[:24]), 0, 0, 0, 0, 0, 0, 0, 0)); err != api.OK {
		t.Error("P12.2: an object that refers to itself")
	}
}

func TestApart(t *testing.T) {
	h := fresh(t, 20)
	l := append(make([]word.Word, 0, 8), num(1), num(2))
	p := make1(t, h, 1, 0, l...)
	l[0] = num(9)
	if w, _ := h.Get(p, 0); w != num(1) {
		t.Error("R4: Make keeps its words")
	}
	b := h.Put()
	c, _ := Load(b)
	b[24] = 77
	if w, _ := c.Get(p, 0); w != num(1) {
		t.Error("R4: Load keeps its bytes")
	}
}
