package snap

import (
	"bytes"
	"testing"

	"hindsight/api"
)

func noise(n int, seed uint32) []byte {
	b := make([]byte, n)
	for i := range b {
		seed = seed*1664525 + 1013904223
		b[i] = byte(seed >> 24)
	}
	return b
}

func TestApply(t *testing.T) {
	old := []byte("abc")
	long := append([]byte{2, 128, 128, 128, 2}, make([]byte, 1<<22)...)
	for i, c := range []struct {
		old, patch []byte
		want       string
		err        api.Errno
	}{
		{old, []byte{1, 0, 2, 2, 1, 'x'}, "abx", api.OK}, {old, nil, "", api.OK}, {old, []byte{1, 0, 3}, "abc", api.OK}, {old, []byte{1, 2, 1, 1, 0, 1, 1, 0, 3}, "caabc", api.OK},
		{nil, []byte{2, 2, 'h', 'i'}, "hi", api.OK},
		{old, []byte{0}, "", api.EFORM}, {old, []byte{3, 1, 1}, "", api.EFORM}, {old, []byte{1}, "", api.EFORM}, {old, []byte{1, 0}, "", api.EFORM},
		{old, []byte{1, 0, 4}, "", api.EFORM}, {old, []byte{1, 3, 1}, "", api.EFORM}, {old, []byte{1, 4, 1}, "", api.EFORM}, {old, []byte{1, 0, 0}, "", api.EFORM},
		{old, []byte{2, 0}, "", api.EFORM}, {old, []byte{2, 2, 'a'}, "", api.EFORM}, {old, []byte{2}, "", api.EFORM}, {old, []byte{1, 128, 0, 1}, "", api.EFORM},
		{old, []byte{1, 0, 129, 0}, "", api.EFORM}, {old, []byte{2, 129, 0, 'x'}, "", api.EFORM}, {old, []byte{1, 0, 2, 9}, "", api.EFORM},
		{old, []byte{1, 255, 255, 255, 255, 255, 255, 255, 255, 255, 1, 2}, "", api.EFORM}, {old, []byte{1, 1, 255, 255, 255, 255, 255, 255, 255, 255, 255, 1}, "", api.EFORM},
		{old, long, string(make([]byte, 1<<22)), api.OK}, {old, append(bytes.Clone(long), 2, 1, 0), "", api.ELIMIT}, {old, append(bytes.Clone(long), 1, 0, 1, 1, 0, 0), "", api.EFORM},
	} {
		got, err := Apply(c.old, c.patch)
		if string(got) != c.want || err != c.err {
			t.Errorf("P21.1: number %d: Apply returns %d bytes, %d", i, len(got), err)
		}
	}
	got, _ := Apply(old, []byte{1, 0, 3})
	got[0] = 'z'
	if old[0] != 'a' {
		t.Error("R4: Apply shares memory")
	}
}

func TestDiff(t *testing.T) {
	a := noise(5000, 1)
	edit := func(f func(b []byte) []byte) []byte { return f(bytes.Clone(a)) }
	for i, c := range []struct {
		old, new []byte
		most     int
	}{
		{nil, nil, 0}, {a, nil, 0}, {nil, a, len(a) + 8}, {a, a, 16}, {a[:1], a[:1], 9}, {a, noise(5000, 2), 5008}, {nil, []byte{1}, 9},
		{a, edit(func(b []byte) []byte { b[2500]++; return b }), 40},
		{a, edit(func(b []byte) []byte { return append(b[:2500:2500], a[2505:]...) }), 40},
		{a, edit(func(b []byte) []byte { return append(append(b[:2500:2500], 1, 2, 3), a[2500:]...) }), 40},
		{a, edit(func(b []byte) []byte { b[10]++; b[1000]++; b[4000]++; b[4020]++; return b }), 100},
		{a, append(noise(20, 4), a[:300]...), 330}, {make([]byte, 1<<22), make([]byte, 1<<22), 16}, {a, make([]byte, 1<<22), 1<<22 + 8},
		{bytes.Repeat([]byte{1, 2}, 500), bytes.Repeat([]byte{2, 1}, 500), 1008},
	} {
		p := Diff(c.old, c.new)
		if len(p) > c.most || len(p) > len(c.new)+8 {
			t.Errorf("P21.1: number %d: the patch has %d bytes", i, len(p))
		}
		if got, err := Apply(c.old, p); !bytes.Equal(got, c.new) || err != api.OK {
			t.Errorf("P21.1: number %d: the patch makes %d bytes, %d", i, len(got), err)
		}
	}
	for n := range 300 {
		if p := Diff(a[:n], a[:n]); len(p) > 16 {
			t.Errorf("P21.1: the patch of %d equal bytes has %d", n, len(p))
		}
	}
	if Diff(nil, make([]byte, 1<<22+1)) != nil || Diff(make([]byte, 1<<22+1), make([]byte, 1<<22+1)) != nil {
		t.Error("P21.1: Diff of too many bytes")
	}
	// Short runs and gaps of all lengths: a patch must never be much longer than what it makes.
	for gap := 1; gap < 40; gap++ {
		for run := 1; run < 40; run++ {
			b := bytes.Clone(a)
			for i := 0; i < len(b); i += gap + run {
				for j := i; j < min(i+gap, len(b)); j++ {
					b[j] ^= 255
				}
			}
			p := Diff(a, b)
			if got, err := Apply(a, p); len(p) > len(b)+8 || !bytes.Equal(got, b) || err != api.OK {
				t.Fatalf("P21.1: gaps of %d, runs of %d: %d bytes", gap, run, len(p))
			}
		}
	}
	huge := noise(1<<21, 7) // offsets of many bytes
	b := bytes.Clone(huge)
	for i := 0; i < len(b); i += 17 {
		b[i] ^= 1
	}
	if p := Diff(huge, b); len(p) > len(b)+8 {
		t.Errorf("P21.1: the patch has %d bytes more", len(p)-len(b))
	}
}

func TestSum(t *testing.T) {
	for s, want := range map[string]uint64{"": 14695981039346656037, "a": 0xaf63dc4c8601ec8c, "foobar": 0x85944171f73967e8} {
		if got := Sum([]byte(s)); got != want {
			t.Errorf("P21.1: Sum of %q is %x", s, got)
		}
	}
}
