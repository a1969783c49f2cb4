package queue_test

import (
	"testing"

	"rafter/queue"
)

func TestInOrder(t *testing.T) { // what came first is handed on first, whatever is put in between
	var q queue.Queue[int]
	put, want := 0, 0
	for round := range 50 {
		for range round % 7 {
			q.Put(put)
			put++
		}
		for range round % 5 {
			x, ok := q.Take()
			if ok != (want < put) || ok && x != want || !ok && x != 0 {
				t.Fatalf("%d, %v; want %d of %d", x, ok, want, put)
			}
			if ok {
				want++
			}
		}
	}
	for ; want < put; want++ {
		if x, ok := q.Take(); x != want || !ok {
			t.Fatalf("%d, %v; want %d", x, ok, want)
		}
	}
	for range 3 {
		if x, ok := q.Take(); x != 0 || ok {
			t.Fatalf("%d, %v: nothing waits", x, ok)
		}
	}
}

func TestTwoQueues(t *testing.T) { // they have nothing in common
	var one, two queue.Queue[string]
	one.Put("a")
	if x, ok := two.Take(); x != "" || ok {
		t.Errorf("%q, %v", x, ok)
	}
	two.Put("b")
	if x, ok := one.Take(); x != "a" || !ok {
		t.Errorf("%q, %v", x, ok)
	}
	if x, ok := two.Take(); x != "b" || !ok {
		t.Errorf("%q, %v", x, ok)
	}
}
