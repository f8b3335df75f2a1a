package label_test

import (
	"slices"
	"strings"
	"testing"

	"jackfield/api"
	"jackfield/label"
)

// most is a label of the greatest size.
const most = "abcdefg-01234567"

// sized is a name of n bytes, of labels as long as can be.
func sized(n int) string {
	s := ""
	for n-len(s) > 16 {
		// At least a dot and one byte must still follow.
		s += most[:min(16, n-len(s)-2)] + "."
	}
	return s + strings.Repeat("x", n-len(s))
}

// deep is a name of n labels.
func deep(n int) string {
	return strings.TrimSuffix(strings.Repeat("a.", n), ".")
}

func errIf(wrong bool) error {
	if wrong {
		return api.ErrName
	}
	return nil
}

// wantKind holds what Check, Name and Labels say of a string against what it is.
func wantKind(t *testing.T, s string, pattern, name bool) {
	t.Helper()
	if err := label.Check(s); err != errIf(!pattern) {
		t.Errorf("Check(%q) = %v; a pattern: %v", s, err, pattern)
	}
	if err := label.Name(s); err != errIf(!name) {
		t.Errorf("Name(%q) = %v; a name: %v", s, err, name)
	}
	if l := label.Labels(s); pattern && strings.Join(l, ".") != s || !pattern && len(l) != 0 {
		t.Errorf("Labels(%q) = %q; a pattern: %v", s, l, pattern)
	}
}

// wantName asks a string, and it behind "*." too, where it is short enough for that.
func wantName(t *testing.T, s string, name bool) {
	t.Helper()
	wantKind(t, s, name, name)
	if len(s)+2 <= api.MaxName {
		wantKind(t, "*."+s, name, false)
	}
}

func wantFits(t *testing.T, pattern, name string, want bool) {
	t.Helper()
	if got := label.Fits(pattern, name); got != want {
		t.Errorf("Fits(%q, %q) = %v", pattern, name, got)
	}
}

func wantUnder(t *testing.T, a, b string, want bool) {
	t.Helper()
	if got := label.Under(a, b); got != want {
		t.Errorf("Under(%q, %q) = %v", a, b, got)
	}
}

func wantBest(t *testing.T, want int, name string, list ...string) {
	t.Helper()
	before := slices.Clone(list)
	if got := label.Best(list, name); got != want {
		t.Errorf("Best(%q, %q) = %d, want %d", list, name, got, want)
	}
	if !slices.Equal(list, before) {
		t.Errorf("Best has changed its list: %q was %q", list, before)
	}
}

// P8.1: the chapter's examples.
func TestExamples(t *testing.T) {
	wantFits(t, "*.shop", "a.b.shop", true)
	wantFits(t, "*.shop", "shop", false)
	wantBest(t, 1, "x.b.shop", "*.shop", "*.b.shop", "a.b.shop")
	for _, s := range []string{"-a", "a..b", "*", "a.*.b"} {
		wantKind(t, s, false, false)
	}
	wantFits(t, "*.b.c", "a.b.c", true)
	wantFits(t, "*.b.c", "x.a.b.c", true)
	wantFits(t, "*.b.c", "b.c", false)
}

// P8.1: strings that are names, and such that are none.
func TestNames(t *testing.T) {
	for _, s := range []string{"a", "0", "z9", "a-b", "a--b", "0-9", "shop", "a.b", "a.b.c.d.e.f.g.h", "1.2.3", "xn--a", most, most + "." + most} {
		wantName(t, s, true)
	}
	for _, s := range []string{
		"", ".", "..", "a.", ".a", "a..b", "-", "--", "-a", "a-", "a.-b", "a-.b", "a.b-", "-.a", "a.-", "A", "aB", "a.B", "a_b", "a b", " a", "a ",
		"a\n", "\na", "a\x00", "a/b", "a:1", "a,b", "a\xff", "\xff", "é", "ä", "ａ", "\u212a", "a\u0301", "a。b", "٣",
		"*", "**", "*a", "a*", "*a.b", "a.*", "a.*.b", "*-a", most + "x", "a." + most + "x", most + "x.a", "a." + most + "x.b",
	} {
		wantName(t, s, false)
	}
}

// P8.1: what begins like a pattern but is none, and one that is.
func TestPatterns(t *testing.T) {
	for _, s := range []string{"*.", "*..", "*..a", "*.*", "*.*.a", "*.a.", "*.-a", "*.a.*", "**.a", ".*.a", "*,a", "*a", " *.a", "*. a", "*.A", "*.*."} {
		wantKind(t, s, false, false)
	}
	wantKind(t, "*.a", true, false)
	wantKind(t, "*.a.b", true, false)
}

// P8.1: each byte alone, and in each place of a label.
func TestEveryByte(t *testing.T) {
	for n := range 256 {
		c := string([]byte{byte(n)})
		inner := strings.Contains("abcdefghijklmnopqrstuvwxyz0123456789-", c)
		outer := inner && c != "-"
		wantName(t, c, outer)
		wantName(t, c+"b", outer)
		wantName(t, "b"+c, outer)
		wantName(t, "b"+c+"b", inner || c == ".")
		wantName(t, "b."+c, outer)
		wantName(t, "b."+c+".b", outer)
		wantKind(t, c+".b", outer || c == "*", outer)
		wantKind(t, "*."+c+".b", outer, false)
	}
}

// P8.1: labels, names and patterns of every size, up to beyond the limits.
func TestSizes(t *testing.T) {
	for n := range 40 {
		s := strings.Repeat("x", n)
		wantName(t, s, n >= 1 && n <= 16)
		wantName(t, "a."+s, n >= 1 && n <= 16)
		wantName(t, s+".a", n >= 1 && n <= 16)
	}
	for n := 1; n <= 200; n++ {
		s := sized(n)
		if len(s) != n {
			t.Fatalf("%q has %d bytes, not %d", s, len(s), n)
		}
		wantKind(t, s, n <= 63, n <= 63)
		wantKind(t, "*."+s, n+2 <= 63, false)
	}
	for n := 1; n <= 40; n++ {
		wantKind(t, deep(n), n <= 8, n <= 8)
		wantKind(t, "*."+deep(n), n <= 8, false)
	}
	wantKind(t, deep(8)+".", false, false)
	wantKind(t, "*."+deep(8)+".", false, false)
	for _, huge := range []string{strings.Repeat("a", 1<<20), strings.Repeat("a.", 1<<20), strings.Repeat("*.", 1<<20), "*." + strings.Repeat(".", 1<<20)} {
		wantKind(t, huge, false, false)
		wantFits(t, huge, "a", false)
		wantFits(t, "*.a", huge, false)
		wantUnder(t, huge, "*.a", false)
		wantUnder(t, "a", huge, false)
		wantBest(t, -1, huge, huge)
	}
}

// P8.1: a pattern fits by whole labels at a name's end.
func TestFits(t *testing.T) {
	for _, c := range []struct {
		pattern, name string
		want          bool
	}{
		{"a", "a", true}, {"a.b", "a.b", true}, {"a", "b", false}, {"a", "a.b", false}, {"b", "a.b", false}, {"a.b", "b", false}, {"a.b", "b.a", false},
		{"*.a", "b.a", true}, {"*.a", "a.a", true}, {"*.a", "c.b.a", true}, {"*.a", "a", false}, {"*.a", "ba", false}, {"*.a", "b-a", false},
		{"*.a", "b.aa", false}, {"*.aa", "b.a", false}, {"*.a", "a.b", false}, {"*.a", "b.a.b", false}, {"*.b.a", "c.bb.a", false}, {"*.b.a", "cb.a", false},
		{"*.b.a", "b.a", false}, {"*.b.a", "b.b.a", true}, {"*.b.a", "a", false}, {"*.a.a", "a.a", false}, {"*.a.a", "a.a.a", true},
	} {
		wantFits(t, c.pattern, c.name, c.want)
	}
	// Of names and patterns at the limits.
	wantFits(t, "*."+deep(7), deep(8), true)
	wantFits(t, "*.a", deep(8), true)
	wantFits(t, "*."+deep(7), deep(7), false)
	wantFits(t, "*."+deep(8), deep(8), false)
	wantFits(t, "*."+deep(7), deep(9), false)
	wantFits(t, "*."+deep(8), deep(9), false)
	wantFits(t, deep(9), deep(9), false)
	wantFits(t, "*."+sized(61), "a."+sized(61), true)
	wantFits(t, "*."+sized(61), "aa."+sized(61), false)
	wantFits(t, "*."+sized(60), "aa."+sized(60), true)
	wantFits(t, sized(63), sized(63), true)
	wantFits(t, sized(64), sized(64), false)
}

// P8.1: what is no pattern fits nothing, and what is no name isn't fitted, even by what equals it or ends alike.
func TestFitsOfWrongOnes(t *testing.T) {
	for _, s := range []string{"", ".", "A", "-a", "a-", "a..b", ".a", "a.", "*", "*.", "*.*", "*.*.a", "*.a.*", "a.*.b", "*a", "é", most + "x", "a\xff"} {
		wantFits(t, s, s, false)
		wantFits(t, s, "a", false)
		wantFits(t, s, "a.a", false)
		wantFits(t, "a", s, false)
		wantFits(t, "*.a", s, false)
		wantFits(t, "*.a", s+".a", false)
		wantFits(t, s+".a", s+".a", false)
		wantUnder(t, s, s, false)
		wantUnder(t, s, "a", false)
		wantUnder(t, "a", s, false)
		wantUnder(t, s, "*.a", false)
		wantUnder(t, "*.a", s, false)
		wantUnder(t, "*."+deep(8), s, false)
		wantUnder(t, s, "*."+deep(8), false)
		wantBest(t, -1, s, s, "a", "*.a")
		wantBest(t, 1, "b.a", s, "*.a", s)
		wantBest(t, -1, "b.a", s, "b."+s)
	}
	wantFits(t, "*.a", "*.a", false)
	wantFits(t, "a", "*.a", false)
	wantFits(t, "*.a", "*.b.a", false)
}

// P8.1: the best pattern is the name, or the one with the most bytes; of equal ones it is the first.
func TestBest(t *testing.T) {
	wantBest(t, -1, "a")
	wantBest(t, -1, "a", "b", "*.a", "a.a")
	wantBest(t, -1, "*.a", "*.a", "a")
	wantBest(t, 0, "a", "a")
	wantBest(t, 1, "a", "b", "a", "a")
	wantBest(t, 1, "b.a", "*.b", "*.a", "*.a")
	wantBest(t, 2, "d.c.b.a", "*.a", "*.b.a", "*.c.b.a", "*.a")
	wantBest(t, 0, "d.c.b.a", "*.c.b.a", "*.b.a", "*.a", "*.c.b.a")
	wantBest(t, 1, "bb.a", "*.a", "bb.a")
	// "*.a" has as many bytes as b.a.
	wantBest(t, 1, "b.a", "*.a", "b.a", "*.a", "b.a")
	wantBest(t, 0, "b.a", "b.a", "*.a")
	wantBest(t, 2, "c.b.a", "*.a", "*.b.a", "c.b.a", "*.b.a")
	// Those that do not fit count for nothing, whatever they have.
	wantBest(t, 3, "x.bb.a", "*.b.a", "*.bbb.a", "*.a", "*.bb.a", "x.b.a", "", "*.")
	wantBest(t, 1, "a."+deep(7), "*."+deep(6), "*."+deep(7), "*."+deep(8), "*."+deep(9))
	wantBest(t, 9999, "b.a", append(slices.Repeat([]string{"*.b"}, 9999), "*.a", "*.a")...)
}

// P8.1: what one pattern's names are to another's.
func TestUnder(t *testing.T) {
	for _, c := range []struct {
		a, b string
		want bool
	}{
		{"a", "a", true}, {"a", "b", false}, {"a.b", "b", false}, {"b", "a.b", false},
		{"a.b", "*.b", true}, {"c.a.b", "*.b", true}, {"b", "*.b", false}, {"ab", "*.b", false}, {"a.b", "*.a", false}, {"a.b", "*.a.b", false},
		{"*.b", "*.b", true}, {"*.a.b", "*.b", true}, {"*.b", "*.a.b", false}, {"*.ab", "*.b", false}, {"*.b", "*.ab", false}, {"*.a.b", "*.a", false},
		{"*.b", "b", false}, {"*.b", "a.b", false}, {"*.a.b", "a.b", false},
	} {
		wantUnder(t, c.a, c.b, c.want)
	}
}

// P8.1, P8.2: a pattern that fits no name, as that would have too many labels, is under each pattern, and no other is under it.
func TestUnderOfNone(t *testing.T) {
	none, other := "*."+deep(8), "*.b."+deep(7)
	for _, b := range []string{none, other, "b", "a", "*.b", "*.a", deep(8), "b." + deep(7), sized(63), "*." + sized(61)} {
		wantUnder(t, none, b, true)
		wantUnder(t, b, none, b == none || b == other)
	}
	wantUnder(t, none, "*."+deep(9), false)
	wantUnder(t, "*."+deep(9), none, false)
	// With a label less there are names, of one label more.
	some := "*." + deep(7)
	for _, b := range []string{deep(8), "b." + deep(7), "*.b", "b", none, other} {
		wantUnder(t, some, b, false)
	}
	wantUnder(t, some, "*."+deep(6), true)
	// With the greatest number of bytes there are names too, whose first label has one byte.
	large := "*." + sized(61)
	for _, b := range []string{"a." + sized(61), "x", "*.x", sized(61)} {
		wantUnder(t, large, b, false)
	}
	wantUnder(t, large, large, true)
	wantUnder(t, large, "*"+large[18:], true)
}

// P8.1: labels stand from the left, "*" among them.
func TestLabels(t *testing.T) {
	for _, c := range []struct {
		s    string
		want []string
	}{
		{"a", []string{"a"}}, {"shop", []string{"shop"}}, {"a.b-c.0", []string{"a", "b-c", "0"}}, {"*.a", []string{"*", "a"}}, {"*.b.a", []string{"*", "b", "a"}},
		{"", nil}, {"*", nil}, {"*.", nil}, {"a..b", nil}, {"A", nil}, {"a.*", nil}, {"-a", nil}, {deep(9), nil}, {sized(64), nil},
	} {
		if got := label.Labels(c.s); !slices.Equal(got, c.want) {
			t.Errorf("Labels(%q) = %q, want %q", c.s, got, c.want)
		}
	}
	if got := label.Labels("*." + deep(8)); len(got) != 9 || got[0] != "*" {
		t.Errorf("Labels of a pattern with nine labels = %q", got)
	}
}

// Rule 4: two answers share no memory, nor does one with a later one.
func TestLabelsAreNew(t *testing.T) {
	first, second := label.Labels("a.b.c"), label.Labels("a.b.c")
	for i := range first[:cap(first)] {
		first[:cap(first)][i] = "wrong"
	}
	want := []string{"a", "b", "c"}
	if !slices.Equal(second, want) || !slices.Equal(label.Labels("a.b.c"), want) {
		t.Errorf("answers share memory: %q", second)
	}
}

// Rule 4: Best leaves the unused capacity of its list as it is.
func TestBestLeavesTheRest(t *testing.T) {
	room := []string{"*.a", "b", "b.a", "rest"}
	if got := label.Best(room[:2], "b.a"); got != 0 {
		t.Errorf("Best looked behind its list: %d", got)
	}
	if !slices.Equal(room, []string{"*.a", "b", "b.a", "rest"}) {
		t.Errorf("Best has changed what stands behind its list: %q", room)
	}
}
