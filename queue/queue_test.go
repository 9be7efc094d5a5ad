package queue

import (
	"math"
	"math/rand"
	"testing"
)

func many(t *testing.T, q *Queue[int], urgent, others int) {
	t.Helper()
	if u, o := q.Many(); u != urgent || o != others {
		t.Fatalf("%d %d, not %d %d", u, o, urgent, others)
	}
}

func TestNew(t *testing.T) {
	for most, want := range map[int]int{math.MinInt: 1, -1: 1, 0: 1, 1: 1, 2: 2, 63: 63, 64: 64, 65: 64, math.MaxInt: 64} {
		for _, urgent := range []bool{false, true} {
			q := New[int](most)
			many(t, q, 0, 0)
			n := 0
			for q.Put(urgent, n) && n < 1000 {
				n++
			}
			if n != want {
				t.Errorf("%d: %d", most, n)
			}
			if !q.Put(!urgent, 5) {
				t.Error("one class fills the other")
			}
			if q.Put(urgent, 7) {
				t.Error("put above the most")
			}
			if urgent {
				many(t, q, want, 1)
			} else {
				many(t, q, 1, want)
			}
			if k := q.Drain(); k != want+1 {
				t.Error(k)
			}
			many(t, q, 0, 0)
			if !q.Put(urgent, 1) {
				t.Error("not put behind a drain")
			}
		}
	}
}

func TestOfTheDocument(t *testing.T) {
	q := New[string](3)
	q.Put(false, "a")
	q.Put(true, "b")
	q.Put(false, "c")
	for _, want := range []string{"b", "a", "c"} {
		if x, is := q.Take(); x != want || !is {
			t.Error(x, is)
		}
	}
	if x, is := q.Take(); x != "" || is {
		t.Error(x, is)
	}
	if q.Drain() != 0 {
		t.Error("drained of none")
	}
}

func TestZeroOnes(t *testing.T) {
	type thing struct {
		l []int
		p *int
	}
	q := New[thing](2)
	if x, is := q.Take(); x.l != nil || x.p != nil || is {
		t.Error(x, is)
	}
	q.Put(false, thing{})
	if x, is := q.Take(); x.l != nil || x.p != nil || !is {
		t.Error(x, is)
	}
}

// TestAhead: behind many calls what goes is what a plain model says: urgent ones first, each class in order.
func TestAhead(t *testing.T) {
	r := rand.New(rand.NewSource(1))
	for range 300 {
		most := 1 + r.Intn(6)
		q := New[int](most)
		var rows [2][]int
		next := 0
		for range 200 {
			switch r.Intn(5) {
			case 0, 1:
				x, is := q.Take()
				row := &rows[0]
				if len(*row) == 0 {
					row = &rows[1]
				}
				if is != (len(*row) > 0) || is && x != (*row)[0] || !is && x != 0 {
					t.Fatalf("%d %v of %v", x, is, rows)
				}
				if is {
					*row = (*row)[1:]
				}
			case 2:
				if r.Intn(20) == 0 {
					if n := q.Drain(); n != len(rows[0])+len(rows[1]) {
						t.Fatal(n)
					}
					rows = [2][]int{}
				}
			default:
				next++
				urgent := r.Intn(2) == 0
				row := &rows[1]
				if urgent {
					row = &rows[0]
				}
				is := q.Put(urgent, next)
				if is != (len(*row) < most) {
					t.Fatalf("%v of %v", is, rows)
				}
				if is {
					*row = append(*row, next)
				}
			}
			many(t, q, len(rows[0]), len(rows[1]))
		}
	}
}
