package label_test

import (
	"math/rand"
	"regexp"
	"slices"
	"strings"
	"testing"

	"jackfield/label"
)

// The chapter's words a second time: a name by an expression, and fits label by label from the right.
var nameForm = regexp.MustCompile(`^[a-z0-9]([a-z0-9-]{0,14}[a-z0-9])?(\.[a-z0-9]([a-z0-9-]{0,14}[a-z0-9])?){0,7}\z`)

func modelName(s string) bool { return len(s) <= 63 && nameForm.MatchString(s) }

func modelPattern(s string) bool {
	if len(s) <= 63 && strings.HasPrefix(s, "*.") {
		return modelName(s[2:])
	}
	return modelName(s)
}

func modelFits(pattern, name string) bool {
	if !modelPattern(pattern) || !modelName(name) {
		return false
	}
	p, n := strings.Split(pattern, "."), strings.Split(name, ".")
	if p[0] != "*" {
		return slices.Equal(p, n)
	}
	p = p[1:]
	return len(n) > len(p) && slices.Equal(p, n[len(n)-len(p):])
}

// modelBest puts those that fit into an order, the best first: the name itself counts as more bytes than any pattern has.
func modelBest(list []string, name string) int {
	size := func(i int) int {
		if list[i] == name {
			return 1000
		}
		return len(list[i])
	}
	var fit []int
	for i, p := range list {
		if modelFits(p, name) {
			fit = append(fit, i)
		}
	}
	if len(fit) == 0 {
		return -1
	}
	slices.SortStableFunc(fit, func(i, j int) int { return size(j) - size(i) })
	return fit[0]
}

// everyName is all names of 1 to n labels out of some.
func everyName(n int, some ...string) []string {
	var all []string
	last := []string{""}
	for range n {
		var next []string
		for _, tail := range last {
			for _, l := range some {
				next = append(next, strings.TrimSuffix(l+"."+tail, "."))
			}
		}
		all = append(all, next...)
		last = next
	}
	return all
}

// everyPattern is the names, and each of them behind "*.".
func everyPattern(names []string) []string {
	all := slices.Clone(names)
	for _, n := range names {
		all = append(all, "*."+n)
	}
	return all
}

// fittedBy holds Fits against the model for each pair, and is one set of names a pattern, a bit for each name.
func fittedBy(t *testing.T, patterns, names []string) [][]uint64 {
	t.Helper()
	sets := make([][]uint64, len(patterns))
	for i, p := range patterns {
		sets[i] = make([]uint64, len(names)/64+1)
		for j, n := range names {
			got := label.Fits(p, n)
			if got != modelFits(p, n) {
				t.Fatalf("Fits(%q, %q) = %v", p, n, got)
			}
			if got {
				sets[i][j/64] |= 1 << (j % 64)
			}
		}
	}
	return sets
}

func within(a, b []uint64) bool {
	for i := range a {
		if a[i]&^b[i] != 0 {
			return false
		}
	}
	return true
}

// wantUnderAgrees holds Under against Fits for all pairs of patterns, by the names given.
func wantUnderAgrees(t *testing.T, patterns, names []string) {
	t.Helper()
	sets := fittedBy(t, patterns, names)
	for i, a := range patterns {
		for j, b := range patterns {
			if got := label.Under(a, b); got != within(sets[i], sets[j]) {
				t.Fatalf("Under(%q, %q) = %v", a, b, got)
			}
		}
	}
}

// P8.1, P8.2: all patterns of up to MaxLabels labels out of two, with all names of these.
func TestUnderAgreesWithFits(t *testing.T) {
	names := everyName(8, "a", "b")
	wantUnderAgrees(t, everyPattern(names), names)
}

// P8.1, P8.2: labels that are ends and beginnings of one another.
func TestUnderOfLikeLabels(t *testing.T) {
	names := everyName(3, "a", "aa", "b", "ab", "a-b")
	wantUnderAgrees(t, everyPattern(everyName(2, "a", "aa", "b", "ab", "a-b")), names)
}

// P8.2: patterns with as many bytes as may be; their names have a first label of one byte or two.
func TestUnderOfLongOnes(t *testing.T) {
	var patterns, names []string
	for n := 40; n <= 63; n++ {
		names = append(names, sized(n))
	}
	for _, end := range names {
		for _, first := range everyName(1, "a", "b", "cc", most) {
			if s := first + "." + end; len(s) <= 63 {
				patterns = append(patterns, s)
			}
		}
		if len(end) <= 61 {
			patterns = append(patterns, "*."+end)
		}
	}
	names = append(names, patterns...)
	patterns = append(patterns, names...)
	names = slices.DeleteFunc(names, func(s string) bool { return strings.HasPrefix(s, "*") })
	wantUnderAgrees(t, patterns, names)
}

// P8.1: all short strings out of the bytes that matter, as patterns, names and both.
func TestShortStrings(t *testing.T) {
	last := []string{""}
	for range 7 {
		for _, s := range last {
			wantKind(t, s, modelPattern(s), modelName(s))
		}
		var next []string
		for _, s := range last {
			for _, c := range "a-.*A" {
				next = append(next, s+string(c))
			}
		}
		last = next
	}
}

// P8.2: every order of a list has the same best pattern, at the first of its places.
func TestBestInEveryOrder(t *testing.T) {
	lists := [][]string{
		{"*.a", "*.b.a", "b.a", "c.b.a", "*.c.b.a"},
		{"*.a", "*.a", "b.a", "b.a", "*.b.a"},
		{"*.a", "*.b", "a", "-", "a.a"},
		{"*.a.a", "*.a", "a.a", "*.aa", "a.a.a"},
	}
	for _, list := range lists {
		for _, name := range append(everyName(4, "a", "b", "c"), "", "*.a", "-") {
			want := modelBest(list, name)
			for _, order := range orders(list) {
				got := label.Best(order, name)
				if got != modelBest(order, name) || got >= 0 && order[got] != list[want] || got < 0 && want >= 0 {
					t.Fatalf("Best(%q, %q) = %d; of %q it is %d", order, name, got, list, want)
				}
			}
		}
	}
}

// orders is a list in all its orders.
func orders(list []string) [][]string {
	if len(list) == 0 {
		return [][]string{nil}
	}
	var all [][]string
	for i := range list {
		rest := slices.Delete(slices.Clone(list), i, i+1)
		for _, o := range orders(rest) {
			all = append(all, append([]string{list[i]}, o...))
		}
	}
	return all
}

// chanceString is a string by chance that is often a pattern, or nearly one.
func chanceString(r *rand.Rand) string {
	some := []string{"a", "b", "ab", "a-b", "0", most, "x" + most[1:]}
	var l []string
	for range 1 + r.Intn(9) {
		l = append(l, some[r.Intn(len(some))])
	}
	s := strings.Join(l, ".")
	if r.Intn(3) == 0 {
		s = "*." + s
	}
	if r.Intn(8) == 0 {
		at := r.Intn(len(s) + 1)
		s = s[:at] + []string{"-", ".", "*", "A", "\xff", "é", ""}[r.Intn(7)] + s[at:]
	}
	if r.Intn(8) == 0 {
		s = s[:r.Intn(len(s)+1)]
	}
	return s
}

// relative is a string, or one that has to do with it.
func relative(r *rand.Rand, s string) string {
	switch r.Intn(5) {
	case 0:
		return "*." + s
	case 1:
		return "x." + s
	case 2:
		return s[strings.Index(s, ".")+1:]
	case 3:
		return "*." + s[strings.Index(s, ".")+1:]
	}
	return s
}

// P8.1, P8.2: strings by chance, and those that have to do with them.
func TestManyStrings(t *testing.T) {
	r := rand.New(rand.NewSource(8))
	names, fits, found := 0, 0, 0
	const rounds = 20000
	for range rounds {
		name := chanceString(r)
		wantKind(t, name, modelPattern(name), modelName(name))
		var list []string
		for range r.Intn(7) {
			s := relative(r, name)
			if r.Intn(2) == 0 {
				s = relative(r, s)
			}
			wantFits(t, s, name, modelFits(s, name))
			wantFits(t, name, s, modelFits(name, s))
			if modelFits(s, name) {
				fits++
				wantUnder(t, name, s, true)
			}
			list = append(list, s)
		}
		wantBest(t, modelBest(list, name), name, list...)
		if modelName(name) {
			names++
			found += min(1, modelBest(list, name)+1)
		}
	}
	if names < rounds/5 || fits < rounds/5 || found < rounds/10 {
		t.Errorf("of %d strings %d were names, %d found a pattern; %d pairs did fit", rounds, names, found, fits)
	}
}
