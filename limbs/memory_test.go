package limbs_test

import (
	"fmt"
	"slices"
	"sync"
	"testing"

	"rafter/api"
	"rafter/limbs"
)

// call is a call with two lists handed in, and all that it answers: lists, and the rest as a text. A call of one list leaves b alone.
type call struct {
	name string
	ask  func(a, b nat) ([]nat, string)
}

// calls answers all calls of the layer that take lists.
func calls() []call {
	one := func(a nat) []nat { return []nat{a} }
	all := []call{
		{"Trim", func(a, b nat) ([]nat, string) { return one(limbs.Trim(a)), "" }},
		{"Cmp", func(a, b nat) ([]nat, string) { return nil, fmt.Sprint(limbs.Cmp(a, b)) }},
		{"Add", func(a, b nat) ([]nat, string) { return one(limbs.Add(a, b)), "" }},
		{"Sub", func(a, b nat) ([]nat, string) { d, ok := limbs.Sub(a, b); return one(d), fmt.Sprint(ok) }},
		{"Mul", func(a, b nat) ([]nat, string) { return one(limbs.Mul(a, b)), "" }},
		{"DivMod", func(a, b nat) ([]nat, string) { q, r, ok := limbs.DivMod(a, b); return []nat{q, r}, fmt.Sprint(ok) }},
		{"Gcd", func(a, b nat) ([]nat, string) { return one(limbs.Gcd(a, b)), "" }},
		{"Bits", func(a, b nat) ([]nat, string) { return nil, fmt.Sprint(limbs.Bits(a)) }},
		{"Uint", func(a, b nat) ([]nat, string) { n, ok := limbs.Uint(a); return nil, fmt.Sprint(n, ok) }},
		{"Text", func(a, b nat) ([]nat, string) { return nil, limbs.Text(a) }},
	}
	for _, n := range []int{-1, 0, 1, 32, 45, 64, api.MaxShift, api.MaxShift + 1} {
		all = append(all,
			call{fmt.Sprint("Left ", n), func(a, b nat) ([]nat, string) { x, e := limbs.Left(a, n); return one(x), e.Error() }},
			call{fmt.Sprint("Right ", n), func(a, b nat) ([]nat, string) { x, e := limbs.Right(a, n); return one(x), e.Error() }})
	}
	return all
}

// someLists are what the calls of this file are asked with.
func someLists() []nat {
	s := &stream{7}
	return []nat{nil, {1}, {5}, {7}, {top}, {0, 1}, {1 << 31, 1 << 31}, {3, 0, 9}, {top, top, top}, s.nat(6), s.nat(9), full(12)}
}

func TestLimbsOnTop(t *testing.T) { // P1.11
	for _, c := range calls() {
		for _, a := range someLists() {
			for _, b := range someLists() {
				lists, rest := c.ask(a, b)
				for _, k := range []int{1, 2, 5} {
					for _, x := range [][2]nat{{padded(a, k), b}, {a, padded(b, k)}, {padded(a, k), padded(b, 3*k)}, {padded(a, 3*k), padded(b, k)}} {
						otherLists, otherRest := c.ask(x[0], x[1])
						if rest != otherRest || !slices.EqualFunc(lists, otherLists, slices.Equal) {
							t.Fatalf("P1.11: %s of %v and %v: %v %s, without noughts on top %v %s", c.name, x[0], x[1], otherLists, otherRest, lists, rest)
						}
					}
				}
			}
		}
	}
}

func TestNoneAndEmpty(t *testing.T) { // R3: nil and an empty list mean the same
	for _, c := range calls() {
		for _, a := range someLists() {
			for _, x := range [][4]nat{{nil, a, {}, a}, {a, nil, a, {}}, {nil, nil, {}, make(nat, 0, 4)}} {
				lists, rest := c.ask(x[0], x[1])
				otherLists, otherRest := c.ask(x[2], x[3])
				if rest != otherRest || !slices.EqualFunc(lists, otherLists, slices.Equal) {
					t.Fatalf("R3: %s of %v and %v hangs on nil", c.name, x[0], x[1])
				}
			}
		}
	}
}

func TestOneForm(t *testing.T) { // R5: no list that is told has a limb 0 on top
	for _, c := range calls() {
		for _, a := range below(2, edges) {
			for _, b := range below(3, nat{0, 1, top}) {
				lists, _ := c.ask(a, b)
				for _, x := range lists {
					if len(x) > 0 && x[len(x)-1] == 0 {
						t.Fatalf("R5: %s of %v and %v: %v", c.name, a, b, x)
					}
				}
			}
		}
	}
}

// roomy answers a with limbs 0 on top and spare room behind it, all of it written on.
func roomy(a nat, noughts int) nat {
	all := append(padded(a, noughts), 0xdead, 0xbeef, 0xcafe)
	return all[:len(a)+noughts]
}

// scribble writes over a list and the room behind it.
func scribble(a nat) {
	a = a[:cap(a)]
	for i := range a {
		a[i] ^= 0x5a5a5a5a
	}
}

func TestHandedIn(t *testing.T) { // R3: what is handed in stays, the room behind it too, and is not kept
	for _, c := range calls() {
		for _, x := range someLists() {
			for _, y := range someLists() {
				for noughts := range 3 {
					a, b := roomy(x, noughts), roomy(y, noughts)
					wholeA, wholeB := slices.Clone(a[:cap(a)]), slices.Clone(b[:cap(b)])
					lists, _ := c.ask(a, b)
					stays := func(when string) {
						if !slices.Equal(a[:cap(a)], wholeA) || !slices.Equal(b[:cap(b)], wholeB) {
							t.Fatalf("R3: %s of %v and %v changes what is handed in%s", c.name, x, y, when)
						}
					}
					stays("")
					want := copies(lists)
					for _, l := range lists {
						scribble(l)
					}
					stays(", when its answer is written on")
					lists, _ = c.ask(a, b)
					scribble(a)
					scribble(b)
					if !slices.EqualFunc(lists, want, slices.Equal) {
						t.Fatalf("R3: %s of %v and %v: its answer changes with what was handed in, or a second answer with the first", c.name, x, y)
					}
				}
			}
		}
	}
}

func copies(lists []nat) []nat {
	var out []nat
	for _, l := range lists {
		out = append(out, slices.Clone(l))
	}
	return out
}

func TestListsApart(t *testing.T) { // R3: no two lists of an answer share memory
	for _, a := range someLists() {
		for _, b := range someLists() {
			q, r, _ := limbs.DivMod(a, b)
			wantQ, wantR := slices.Clone(q), slices.Clone(r)
			scribble(q)
			same(t, fmt.Sprint("R3: what is left of ", a, b), r, wantR)
			q, r, _ = limbs.DivMod(a, b)
			scribble(r)
			same(t, fmt.Sprint("R3: the quotient of ", a, b), q, wantQ)
		}
	}
}

func TestOneListTwice(t *testing.T) { // R3: the two lists handed in may be one
	for _, c := range calls() {
		for _, a := range someLists() {
			lists, rest := c.ask(a, a)
			otherLists, otherRest := c.ask(slices.Clone(a), slices.Clone(a))
			if rest != otherRest || !slices.EqualFunc(lists, otherLists, slices.Equal) {
				t.Fatalf("R3: %s of %v twice: %v %s, want %v %s", c.name, a, lists, rest, otherLists, otherRest)
			}
		}
	}
}

func TestAnswersStay(t *testing.T) { // R4: an answer is not touched by later calls, of lists, numbers or texts
	parsed, _ := limbs.Parse("340282366920938463463374607431768211455")
	small := limbs.Small(1<<64 - 1)
	scribble(parsed)
	scribble(small)
	again, _ := limbs.Parse("340282366920938463463374607431768211455")
	same(t, "R4: Parse", again, full(4))
	same(t, "R4: Small", limbs.Small(1<<64-1), full(2))
	for _, c := range calls() {
		for _, a := range someLists() {
			lists, rest := c.ask(a, nat{9, 9})
			want := copies(lists)
			for _, other := range calls() {
				other.ask(nat{8, 8, 8}, a)
			}
			limbs.Parse("123456789123456789")
			later, laterRest := c.ask(a, nat{9, 9})
			if rest != laterRest || !slices.EqualFunc(lists, want, slices.Equal) || !slices.EqualFunc(later, want, slices.Equal) {
				t.Fatalf("R4: %s of %v hangs on what was asked in between", c.name, a)
			}
		}
	}
}

func TestSideBySide(t *testing.T) { // R4: calls made at the same time have nothing in common
	var group sync.WaitGroup
	for _, c := range calls() {
		for range 4 {
			group.Go(func() {
				for _, a := range someLists() {
					lists, rest := c.ask(a, nat{3, 5})
					for range 20 {
						more, moreRest := c.ask(a, nat{3, 5})
						if rest != moreRest || !slices.EqualFunc(lists, more, slices.Equal) {
							t.Errorf("R4: %s of %v is not always the same", c.name, a)
						}
					}
				}
			})
		}
	}
	group.Wait()
}
