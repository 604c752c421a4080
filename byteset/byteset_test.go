package byteset

import (
	"bytes"
	"slices"
	"testing"

	"bolter/api"
)

// edges: the bytes at which a set's words begin and end.
func edges() []byte {
	return []byte{0, 1, 62, 63, 64, 65, 127, 128, 191, 192, 254, 255}
}

// members is a set told byte by byte, straight from the chapter's words on api.Set.
func members(s api.Set) [256]bool {
	var m [256]bool
	for b := range m {
		m[b] = s[b/64]>>(b%64)&1 == 1
	}
	return m
}

func setOf(m [256]bool) api.Set {
	var s api.Set
	for b, in := range m {
		if in {
			s[b/64] |= 1 << (b % 64)
		}
	}
	return s
}

// where makes a set by a condition, without the package under test.
func where(in func(b int) bool) api.Set {
	var m [256]bool
	for b := range m {
		m[b] = in(b)
	}
	return setOf(m)
}

func span(lo, hi int) api.Set {
	return where(func(b int) bool { return lo <= b && b <= hi })
}

// samples: sets of all shapes: empty, full, single edges, rows over the words' borders, dense and thin ones.
func samples() []api.Set {
	l := []api.Set{{}, {^uint64(0), ^uint64(0), ^uint64(0), ^uint64(0)}}
	for _, e := range edges() {
		l = append(l, span(int(e), int(e)))
		l = append(l, where(func(b int) bool { return b != int(e) }))
	}
	l = append(l,
		span(0, 63), span(64, 127), span(192, 255), span(60, 70), span(1, 254), span(100, 200),
		where(func(b int) bool { return b%2 == 0 }), where(func(b int) bool { return b%2 == 1 }),
		where(func(b int) bool { return b%3 == 0 }), where(func(b int) bool { return b/16%2 == 0 }))
	x := uint64(1) // a plain row of numbers: the same at every run
	for range 6 {
		var s api.Set
		for i := range s {
			x = x*6364136223846793005 + 1442695040888963407
			s[i] = x ^ x>>29
		}
		l = append(l, s)
	}
	return l
}

// P1.1

func TestOf(t *testing.T) {
	cases := []struct {
		name string
		l    []byte
		want api.Set
	}{
		{"of the chapter", []byte{'a', 'a', 0}, api.Set{1, 1 << 33, 0, 0}},
		{"no bytes", nil, api.Set{}},
		{"no bytes, not nil", []byte{}, api.Set{}},
		{"one byte that stands twice", []byte{7, 7}, api.Set{1 << 7, 0, 0, 0}},
		{"one byte that stands thrice", []byte{9, 7, 9, 9}, api.Set{1<<7 | 1<<9, 0, 0, 0}},
		{"first of each word", []byte{192, 128, 64, 0}, api.Set{1, 1, 1, 1}},
		{"last of each word", []byte{63, 127, 191, 255}, api.Set{1 << 63, 1 << 63, 1 << 63, 1 << 63}},
	}
	for _, c := range cases {
		if got := Of(c.l...); got != c.want {
			t.Errorf("%s: Of(%v): %v, want %v", c.name, c.l, got, c.want)
		}
	}
	for b := range 256 {
		if got := Of(byte(b)); got != span(b, b) {
			t.Errorf("Of(%d): %v", b, got)
		}
	}
}

func TestRangeOfAllPairs(t *testing.T) {
	for lo := range 256 {
		for hi := range 256 {
			if got := Range(byte(lo), byte(hi)); got != span(lo, hi) {
				t.Fatalf("Range(%d, %d): %v, want %v", lo, hi, got, span(lo, hi))
			}
		}
	}
}

func TestRangeWithLoAboveHi(t *testing.T) {
	for _, p := range []api.Span{{Lo: 'b', Hi: 'a'}, {Lo: 255, Hi: 0}, {Lo: 64, Hi: 63}, {Lo: 1, Hi: 0}, {Lo: 255, Hi: 254}} {
		if got := Range(p.Lo, p.Hi); got != (api.Set{}) {
			t.Errorf("Range(%d, %d): %v, want none", p.Lo, p.Hi, got)
		}
	}
}

func TestOfSpans(t *testing.T) {
	cases := []struct {
		name string
		l    []api.Span
		want api.Set
	}{
		{"none", nil, api.Set{}},
		{"none, not nil", []api.Span{}, api.Set{}},
		{"of the chapter", []api.Span{{Lo: 9, Hi: 5}, {Lo: 7, Hi: 8}}, span(7, 8)},
		{"the empty one behind", []api.Span{{Lo: 7, Hi: 8}, {Lo: 9, Hi: 5}}, span(7, 8)},
		{"only an empty one", []api.Span{{Lo: 255, Hi: 0}}, api.Set{}},
		{"all at once", []api.Span{{Lo: 0, Hi: 255}}, span(0, 255)},
		{"that overlap", []api.Span{{Lo: 10, Hi: 70}, {Lo: 60, Hi: 130}}, span(10, 130)},
		{"that touch", []api.Span{{Lo: 64, Hi: 127}, {Lo: 0, Hi: 63}}, span(0, 127)},
		{"one in another", []api.Span{{Lo: 0, Hi: 200}, {Lo: 5, Hi: 6}}, span(0, 200)},
		{"apart", []api.Span{{Lo: 255, Hi: 255}, {Lo: 0, Hi: 0}}, api.Set{1, 0, 0, 1 << 63}},
		{"one that stands twice", []api.Span{{Lo: 3, Hi: 4}, {Lo: 3, Hi: 4}}, span(3, 4)},
	}
	for _, c := range cases {
		if got := OfSpans(c.l); got != c.want {
			t.Errorf("%s: OfSpans(%v): %v, want %v", c.name, c.l, got, c.want)
		}
	}
}

func TestAll(t *testing.T) {
	if got := All(); got != span(0, 255) {
		t.Errorf("All: %v", got)
	}
	if n := Count(All()); n != 256 {
		t.Errorf("Count of All: %d", n)
	}
}

// P1.2

func TestOperationsByteByByte(t *testing.T) {
	for _, a := range samples() {
		m := members(a)
		if got := Complement(a); got != where(func(b int) bool { return !m[b] }) {
			t.Errorf("Complement(%v): %v", a, got)
		}
		for _, b := range samples() {
			n := members(b)
			if got := Union(a, b); got != where(func(b int) bool { return m[b] || n[b] }) {
				t.Errorf("Union(%v, %v): %v", a, b, got)
			}
			if got := Intersect(a, b); got != where(func(b int) bool { return m[b] && n[b] }) {
				t.Errorf("Intersect(%v, %v): %v", a, b, got)
			}
			if got := Minus(a, b); got != where(func(b int) bool { return m[b] && !n[b] }) {
				t.Errorf("Minus(%v, %v): %v", a, b, got)
			}
		}
	}
}

// P1.3

func TestHas(t *testing.T) {
	for _, a := range samples() {
		for b, want := range members(a) {
			if Has(a, byte(b)) != want {
				t.Errorf("Has(%v, %d): %v", a, b, !want)
			}
		}
	}
}

func TestWithin(t *testing.T) {
	for _, a := range samples() {
		for _, b := range samples() {
			want, n := true, members(b)
			for x, in := range members(a) {
				want = want && (!in || n[x])
			}
			if Within(a, b) != want {
				t.Errorf("Within(%v, %v): %v", a, b, !want)
			}
		}
		if !Within(api.Set{}, a) || !Within(a, a) || !Within(a, All()) {
			t.Errorf("none, itself, all: %v", a)
		}
	}
}

func TestCountLeastList(t *testing.T) {
	for _, a := range samples() {
		var want []byte
		for b, in := range members(a) {
			if in {
				want = append(want, byte(b))
			}
		}
		if got := Count(a); got != len(want) {
			t.Errorf("Count(%v): %d, want %d", a, got, len(want))
		}
		if got := List(a); !bytes.Equal(got, want) {
			t.Errorf("List(%v): %v, want %v", a, got, want)
		}
		least, there := Least(a)
		if there != (len(want) > 0) || there && least != want[0] {
			t.Errorf("Least(%v): %d, %v", a, least, there)
		}
	}
}

func TestLeastAtEdges(t *testing.T) {
	if b, there := Least(api.Set{}); b != 0 || there {
		t.Errorf("Least of none: %d, %v", b, there)
	}
	for lo := range 256 {
		if b, there := Least(span(lo, 255)); int(b) != lo || !there {
			t.Errorf("Least of %d to 255: %d, %v", lo, b, there)
		}
	}
}

func TestListOfNoneAndAll(t *testing.T) {
	if l := List(api.Set{}); len(l) != 0 {
		t.Errorf("List of none: %v", l)
	}
	l := List(span(0, 255))
	if len(l) != 256 {
		t.Fatalf("List of all: %d bytes", len(l))
	}
	for i, b := range l {
		if int(b) != i {
			t.Errorf("List of all, at %d: %d", i, b)
		}
	}
}

func TestSpans(t *testing.T) {
	cases := []struct {
		name string
		s    api.Set
		want []api.Span
	}{
		{"of the chapter", where(func(b int) bool { return b >= 1 && b <= 3 || b == 5 || b == 255 }), []api.Span{{Lo: 1, Hi: 3}, {Lo: 5, Hi: 5}, {Lo: 255, Hi: 255}}},
		{"none", api.Set{}, nil},
		{"all", span(0, 255), []api.Span{{Lo: 0, Hi: 255}}},
		{"both ends, which are no neighbours", api.Set{1, 0, 0, 1 << 63}, []api.Span{{Lo: 0, Hi: 0}, {Lo: 255, Hi: 255}}},
		{"over the words' borders", where(func(b int) bool { return b == 63 || b == 64 || b == 127 || b == 128 || b == 191 || b == 192 }), []api.Span{{Lo: 63, Hi: 64}, {Lo: 127, Hi: 128}, {Lo: 191, Hi: 192}}},
		{"up to the words' borders", api.Set{1 << 63, 0, 1, 0}, []api.Span{{Lo: 63, Hi: 63}, {Lo: 128, Hi: 128}}},
		{"one whole word", span(64, 127), []api.Span{{Lo: 64, Hi: 127}}},
		{"all but one", where(func(b int) bool { return b != 64 }), []api.Span{{Lo: 0, Hi: 63}, {Lo: 65, Hi: 255}}},
	}
	for _, c := range cases {
		if got := Spans(c.s); !slices.Equal(got, c.want) {
			t.Errorf("%s: Spans: %v, want %v", c.name, got, c.want)
		}
	}
	if n := len(Spans(where(func(b int) bool { return b%2 == 0 }))); n != 128 {
		t.Errorf("Spans of every second byte: %d", n)
	}
}

// TestSpansAreLongestAndRise: between two spans there is a byte that is in neither.
func TestSpansAreLongestAndRise(t *testing.T) {
	for _, a := range samples() {
		ahead := -2
		for _, p := range Spans(a) {
			if p.Lo > p.Hi || int(p.Lo) <= ahead+1 {
				t.Errorf("Spans(%v): %v behind %d", a, p, ahead)
			}
			ahead = int(p.Hi)
		}
	}
}

// P1.4

func TestCompare(t *testing.T) {
	cases := []struct {
		name string
		a, b api.Set
		want int
	}{
		{"of the chapter", span(0, 0), span(1, 1), -1},
		{"more of the same beginning", span(0, 0), span(0, 1), 1},
		{"none and a byte", api.Set{}, span(255, 255), 1},
		{"all and a byte", span(0, 255), span(0, 0), -1},
		{"none and none", api.Set{}, api.Set{}, 0},
		{"all and all", span(0, 255), span(0, 255), 0},
		{"the least byte decides, not the greatest", where(func(b int) bool { return b == 3 || b == 9 }), where(func(b int) bool { return b == 4 || b == 200 }), -1},
		{"the first word decides", api.Set{1 << 63, 0, 0, 0}, api.Set{0, ^uint64(0), ^uint64(0), ^uint64(0)}, -1},
		{"the last bit of the last word", span(0, 255), span(0, 254), -1},
	}
	for _, c := range cases {
		if got := Compare(c.a, c.b); got != c.want {
			t.Errorf("%s: %d, want %d", c.name, got, c.want)
		}
		if got := Compare(c.b, c.a); got != -c.want {
			t.Errorf("%s, the other way round: %d, want %d", c.name, got, -c.want)
		}
	}
}

func TestCompareByDefinition(t *testing.T) {
	for _, a := range samples() {
		m := members(a)
		for _, b := range samples() {
			n, want := members(b), 0
			for x := 255; x >= 0; x-- { // the least one is asked last, and so decides
				if m[x] && !n[x] {
					want = -1
				} else if n[x] && !m[x] {
					want = 1
				}
			}
			if got := Compare(a, b); got != want {
				t.Errorf("Compare(%v, %v): %d, want %d", a, b, got, want)
			}
		}
	}
}

// P1.5

func TestLawsOfOne(t *testing.T) {
	for _, a := range samples() {
		if got := OfSpans(Spans(a)); got != a {
			t.Errorf("OfSpans(Spans(%v)): %v", a, got)
		}
		if got := Of(List(a)...); got != a {
			t.Errorf("Of(List(%v)..): %v", a, got)
		}
		if got := Complement(Complement(a)); got != a {
			t.Errorf("Complement of Complement(%v): %v", a, got)
		}
	}
}

func TestLawsOfTwo(t *testing.T) {
	for _, a := range samples() {
		for _, b := range samples() {
			if Union(a, b) != Union(b, a) || Intersect(a, b) != Intersect(b, a) {
				t.Errorf("any order: %v, %v", a, b)
			}
			if Complement(Union(a, b)) != Intersect(Complement(a), Complement(b)) || Complement(Intersect(a, b)) != Union(Complement(a), Complement(b)) {
				t.Errorf("Complement turns one into the other: %v, %v", a, b)
			}
		}
	}
}

func TestLawsOfThree(t *testing.T) {
	for _, a := range samples() {
		for _, b := range samples() {
			for _, c := range samples() {
				if Union(a, Union(b, c)) != Union(Union(a, b), c) || Intersect(a, Intersect(b, c)) != Intersect(Intersect(a, b), c) {
					t.Fatalf("any grouping: %v, %v, %v", a, b, c)
				}
				if Union(a, Intersect(b, c)) != Intersect(Union(a, b), Union(a, c)) || Intersect(a, Union(b, c)) != Union(Intersect(a, b), Intersect(a, c)) {
					t.Fatalf("spread over each other: %v, %v, %v", a, b, c)
				}
			}
		}
	}
}

func TestCompareIsAnOrder(t *testing.T) {
	l := samples()
	slices.SortFunc(l, Compare)
	for i, a := range l {
		for j, b := range l {
			got := Compare(a, b)
			if a == b && got != 0 || a != b && (i < j && got != -1 || i > j && got != 1) {
				t.Errorf("sorted at %d and %d: %d", i, j, got)
			}
		}
	}
	if l[0] != span(0, 255) || l[len(l)-1] != (api.Set{}) {
		t.Errorf("first %v, last %v", l[0], l[len(l)-1])
	}
}

// P1.6

func TestArgumentsStay(t *testing.T) {
	room := []byte{3, 1, 2, 77, 78}
	if got := Of(room[:3]...); got != span(1, 3) {
		t.Errorf("Of reads behind the list's length: %v", got)
	}
	if !bytes.Equal(room, []byte{3, 1, 2, 77, 78}) {
		t.Errorf("Of changed its list: %v", room)
	}
	spans := []api.Span{{Lo: 9, Hi: 5}, {Lo: 7, Hi: 8}, {Lo: 100, Hi: 200}}
	if got := OfSpans(spans[:2]); got != span(7, 8) {
		t.Errorf("OfSpans reads behind the list's length: %v", got)
	}
	if !slices.Equal(spans, []api.Span{{Lo: 9, Hi: 5}, {Lo: 7, Hi: 8}, {Lo: 100, Hi: 200}}) {
		t.Errorf("OfSpans changed its list: %v", spans)
	}
}

// TestSetsStay: sets are values, so no call may reach the caller's own.
func TestSetsStay(t *testing.T) {
	for i, a := range samples() {
		b := samples()[len(samples())-1-i]
		keptA, keptB := a, b
		Union(a, b)
		Intersect(a, b)
		Minus(a, b)
		Complement(a)
		Within(a, b)
		Compare(a, b)
		Has(a, 64)
		Count(a)
		Least(a)
		List(a)
		Spans(a)
		if a != keptA || b != keptB {
			t.Errorf("changed: %v to %v, %v to %v", keptA, a, keptB, b)
		}
	}
}

func TestSetsDoNotKeepTheirLists(t *testing.T) {
	l := []byte{1, 2, 3}
	s := Of(l...)
	l[0] = 200
	spans := []api.Span{{Lo: 1, Hi: 3}}
	p := OfSpans(spans)
	spans[0] = api.Span{Lo: 200, Hi: 201}
	if s != span(1, 3) || p != span(1, 3) || Of(1, 2, 3) != span(1, 3) {
		t.Errorf("written over behind the call: %v, %v", s, p)
	}
}

func TestListsToldAreNew(t *testing.T) {
	for _, a := range samples() {
		l, p := List(a), Spans(a)
		wantL, wantP := slices.Clone(l), slices.Clone(p)
		otherL, otherP := List(a), Spans(a)
		overwrite(l, 170)
		overwrite(p, api.Span{Lo: 171, Hi: 3})
		if !slices.Equal(otherL, wantL) || !slices.Equal(otherP, wantP) {
			t.Errorf("two lists share memory: %v", a)
		}
		if !slices.Equal(List(a), wantL) || !slices.Equal(Spans(a), wantP) {
			t.Errorf("what is told later has changed: %v", a)
		}
	}
}

// overwrite fills a list, and what room it has behind its length.
func overwrite[T any](l []T, v T) {
	l = l[:cap(l)]
	for i := range l {
		l[i] = v
	}
}

// TestOneByteInAndOut: every array is a set, and takes each byte of the edges.
func TestOneByteInAndOut(t *testing.T) {
	for _, a := range samples() {
		for _, e := range edges() {
			in, out := Union(a, Of(e)), Minus(a, Of(e))
			if !Has(in, e) || Has(out, e) || Count(in) != Count(out)+1 {
				t.Errorf("byte %d put into, taken out of %v: %v, %v", e, a, in, out)
			}
			if Minus(in, Of(e)) != out || Union(out, Of(e)) != in {
				t.Errorf("byte %d there and back, of %v", e, a)
			}
		}
	}
}

// TestManySpans: each span that there is, but those with byte 64 in them; most of them say nothing.
func TestManySpans(t *testing.T) {
	var l []api.Span
	for lo := range 256 {
		for hi := range 256 {
			if lo > hi || hi < 64 || lo > 64 {
				l = append(l, api.Span{Lo: byte(lo), Hi: byte(hi)})
			}
		}
	}
	if got := OfSpans(l); got != where(func(b int) bool { return b != 64 }) {
		t.Errorf("OfSpans of %d spans: %v", len(l), got)
	}
}
