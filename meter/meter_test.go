package meter

import (
	"math"
	"math/big"
	"math/rand"
	"testing"

	"covenant/api"
)

// edges are numbers at which a sum, a difference or a comparison may go wrong.
func edges() []int64 {
	const most, half = math.MaxInt64, math.MaxInt64 / 2
	l := []int64{math.MinInt64, math.MinInt64 + 1, -half - 1, -1 << 32, -api.MaxGas - 1, -api.MaxGas, -16, -2}
	for n := int64(-1); n <= 17; n++ {
		l = append(l, n)
	}
	return append(l, api.MaxGas-1, api.MaxGas, api.MaxGas+1, 1<<31-1, 1<<31, 1<<32, half, half+1, half+2, most-10, most-2, most-1, most)
}

func mustUse(t *testing.T, g api.Gas, n int64, used int64, is bool) api.Gas {
	t.Helper()
	after, got := Use(g, n)
	if want := (api.Gas{Limit: g.Limit, Used: used}); after != want || got != is {
		t.Errorf("Use(%v, %d) = %v, %v; want %v, %v", g, n, after, got, want, is)
	}
	return after
}

// P9.1 (M1).
func TestNew(t *testing.T) {
	for _, x := range []struct{ limit, want int64 }{
		{math.MinInt64, 0}, {math.MinInt64 + 1, 0}, {-1 << 32, 0}, {-api.MaxGas, 0}, {-1, 0}, {0, 0},
		{1, 1}, {2, 2}, {10, 10}, {4096, 4096}, {65536, 65536}, {99999, 99999}, {100000, 100000},
		{100001, 100000}, {1 << 31, 100000}, {1 << 32, 100000}, {1<<32 + 5, 100000}, {math.MaxInt64 - 1, 100000}, {math.MaxInt64, 100000},
	} {
		if got, want := New(x.limit), (api.Gas{Limit: x.want}); got != want {
			t.Errorf("New(%d) = %v; want %v", x.limit, got, want)
		}
	}
}

// P9.1 (M1): gas that New may have returned.
func TestUse(t *testing.T) {
	for _, x := range []struct {
		limit, used, n int64
		after          int64
		is             bool
	}{
		{10, 0, 4, 4, true}, {10, 4, 6, 10, true}, {10, 10, 1, 10, false}, // the document's
		{10, 0, 0, 0, true}, {10, 4, 0, 4, true}, {10, 10, 0, 10, true}, {0, 0, 0, 0, true},
		{10, 0, 9, 9, true}, {10, 0, 10, 10, true}, {10, 0, 11, 10, false}, {10, 0, 12, 10, false},
		{10, 4, 5, 9, true}, {10, 4, 7, 10, false}, {10, 9, 1, 10, true}, {10, 9, 2, 10, false},
		{0, 0, 1, 0, false}, {1, 0, 1, 1, true}, {1, 0, 2, 1, false},
		{100000, 0, 100000, 100000, true}, {100000, 0, 100001, 100000, false}, {100000, 99999, 1, 100000, true}, {100000, 99999, 2, 100000, false},
		{10, 0, -1, 10, false}, {10, 4, -1, 10, false}, {10, 4, -4, 10, false}, {10, 10, -1, 10, false}, {0, 0, -1, 0, false},
		{10, 0, math.MaxInt64, 10, false}, {10, 4, math.MaxInt64, 10, false}, {10, 10, math.MaxInt64, 10, false}, {10, 4, math.MaxInt64 - 4, 10, false}, {10, 4, math.MaxInt64 - 3, 10, false},
		{10, 0, math.MinInt64, 10, false}, {10, 4, math.MinInt64, 10, false}, {10, 10, math.MinInt64, 10, false}, {0, 0, math.MinInt64, 0, false},
		{10, 4, 1 << 32, 10, false}, {10, 4, 1<<32 + 1, 10, false}, {10, 4, -1 << 32, 10, false},
	} {
		mustUse(t, api.Gas{Limit: x.limit, Used: x.used}, x.n, x.after, x.is)
	}
}

// P9.1 (M1): gas of which less than nothing is used, or more than the limit, is used up, whatever n is.
func TestUseOfWrongGas(t *testing.T) {
	const most, least = math.MaxInt64, math.MinInt64
	for _, g := range []api.Gas{
		{Limit: 10, Used: -1}, {Limit: 10, Used: -10}, {Limit: 0, Used: -1}, {Limit: 10, Used: least}, {Limit: most, Used: -1}, {Limit: most, Used: least},
		{Limit: 10, Used: 11}, {Limit: 0, Used: 1}, {Limit: 10, Used: 100000}, {Limit: 10, Used: most}, {Limit: most - 1, Used: most},
		{Limit: -1, Used: 0}, {Limit: -1, Used: -1}, {Limit: -1, Used: -2}, {Limit: -2, Used: -1}, {Limit: -1, Used: 1}, {Limit: least, Used: 0}, {Limit: least, Used: least}, {Limit: least, Used: most}, {Limit: -1, Used: most},
	} {
		for _, n := range edges() {
			mustUse(t, g, n, g.Limit, false)
		}
	}
}

// P9.1 (M1): where a sum would not fit.
func TestUseNearTheGreatest(t *testing.T) {
	const most = math.MaxInt64
	for _, x := range []struct {
		limit, used, n int64
		after          int64
		is             bool
	}{
		{most, 0, most, most, true}, {most, 0, most - 1, most - 1, true}, {most, 1, most, most, false}, {most, 1, most - 1, most, true},
		{most, most, 0, most, true}, {most, most, 1, most, false}, {most, most, most, most, false}, {most, most, 2, most, false},
		{most, most - 1, 0, most - 1, true}, {most, most - 1, 1, most, true}, {most, most - 1, 2, most, false}, {most, most - 1, most, most, false},
		{most, 2, most, most, false}, {most, most / 2, most/2 + 1, most, true}, {most, most / 2, most/2 + 2, most, false},
		{most - 1, 0, most, most - 1, false}, {most - 1, 0, most - 1, most - 1, true}, {most - 1, most - 1, most, most - 1, false}, {most - 1, most - 1, 1, most - 1, false},
		{most, 5, -1, most, false}, {most, most, -1, most, false}, {most, 0, math.MinInt64, most, false}, {most, most, math.MinInt64, most, false},
	} {
		mustUse(t, api.Gas{Limit: x.limit, Used: x.used}, x.n, x.after, x.is)
	}
}

// P9.1 (M1): all edges with each other, against numbers without bounds.
func TestUseOfEdges(t *testing.T) {
	found := map[bool]int{}
	for _, limit := range edges() {
		for _, used := range edges() {
			for _, n := range edges() {
				sum := new(big.Int).Add(big.NewInt(used), big.NewInt(n))
				is := used >= 0 && n >= 0 && sum.Cmp(big.NewInt(limit)) <= 0
				after := limit
				if is {
					after = sum.Int64()
				}
				mustUse(t, api.Gas{Limit: limit, Used: used}, n, after, is)
				found[is]++
			}
		}
	}
	if found[true] < 1000 || found[false] < 1000 {
		t.Error(found)
	}
}

// P9.2: the document's example.
func TestExample(t *testing.T) {
	g := New(10)
	g = mustUse(t, g, 4, 4, true)
	g = mustUse(t, g, 6, 10, true)
	mustUse(t, g, 1, 10, false)
}

// P9.2: several uses that succeed leave their sum used, up to the whole limit.
func TestUsesAddUp(t *testing.T) {
	g := New(100)
	for _, x := range []struct{ n, used int64 }{{1, 1}, {2, 3}, {0, 3}, {30, 33}, {7, 40}, {7, 47}, {0, 47}, {52, 99}, {1, 100}, {0, 100}} {
		g = mustUse(t, g, x.n, x.used, true)
	}
	g = New(api.MaxGas)
	for i := range int64(api.MaxGas) {
		g = mustUse(t, g, 1, i+1, true)
	}
	mustUse(t, g, 1, api.MaxGas, false)
}

// P9.2: from the first use on that is too much nothing is left, also for one that would have had room.
func TestNothingIsLeft(t *testing.T) {
	for _, first := range []int64{7, 8, 11, 100001, math.MaxInt64, -1, -4, math.MinInt64} {
		g := mustUse(t, New(10), 4, 4, true)
		g = mustUse(t, g, first, 10, false)
		for _, n := range []int64{1, 2, 6, 10, 11, math.MaxInt64, -1, math.MinInt64} {
			g = mustUse(t, g, n, 10, false)
			g = mustUse(t, g, 0, 10, true)
		}
	}
	g := New(-5)
	for _, n := range []int64{1, 5, -5, math.MaxInt64} {
		g = mustUse(t, g, n, 0, false)
	}
	mustUse(t, g, 0, 0, true)
}

// randomUse is mostly so small that several succeed.
func randomUse(source *rand.Rand) int64 {
	switch source.Intn(30) {
	case 0:
		return edges()[source.Intn(len(edges()))]
	case 1:
		return int64(source.Uint64())
	}
	return source.Int63n(20)
}

// P9.2: what is used never decreases, is never greater than the limit, and is the sum as long as all uses succeed; afterwards nothing is left.
func TestAnyUses(t *testing.T) {
	source := rand.New(rand.NewSource(1))
	ended := 0
	for range 2000 {
		limit := source.Int63n(300)
		g, sum, all := New(limit), int64(0), true
		for range source.Intn(40) {
			n := randomUse(source)
			after, is := Use(g, n)
			if after.Limit != limit || after.Used < g.Used || after.Used > limit {
				t.Fatalf("Use(%v, %d) = %v", g, n, after)
			}
			if is {
				sum += n
			}
			if all = all && is; all && after.Used != sum || !all && after.Used != limit {
				t.Fatalf("Use(%v, %d) = %v, %v; the sum is %d", g, n, after, is, sum)
			}
			g = after
		}
		if !all {
			ended++
		}
	}
	if ended < 500 || ended > 1500 {
		t.Errorf("%d of 2000 had too little", ended)
	}
}

// P9.1 (M2).
func TestTexts(t *testing.T) {
	for _, x := range []struct {
		n    int
		want int64
	}{
		{31, 1}, // the document's
		{-1, 0}, {-15, 0}, {-16, 0}, {-17, 0}, {-100, 0}, {math.MinInt, 0}, {math.MinInt + 1, 0}, {-1 << 32, 0},
		{0, 0}, {1, 0}, {15, 0}, {16, 1}, {17, 1}, {30, 1}, {32, 2}, {33, 2}, {47, 2}, {48, 3}, {255, 15}, {256, 16}, {257, 16}, {320, 20},
		{65535, 4095}, {65536, 4096}, {1<<31 - 1, 1<<27 - 1}, {1 << 31, 1 << 27}, {1<<31 + 16, 1<<27 + 1}, {1 << 32, 1 << 28}, {1<<32 + 16, 1<<28 + 1},
		{math.MaxInt - 15, math.MaxInt / 16}, {math.MaxInt - 16, math.MaxInt/16 - 1}, {math.MaxInt - 1, math.MaxInt / 16}, {math.MaxInt, math.MaxInt / 16},
	} {
		if got := Texts(x.n); got != x.want {
			t.Errorf("Texts(%d) = %d; want %d", x.n, got, x.want)
		}
	}
}

// P9.1 (M2): counted up, one more at each sixteenth byte.
func TestTextsOfEachLength(t *testing.T) {
	want := int64(0)
	for n := range 5000 {
		if n > 0 && n%16 == 0 {
			want++
		}
		if got := Texts(n); got != want {
			t.Fatalf("Texts(%d) = %d; want %d", n, got, want)
		}
		if got := Texts(-n); got != 0 {
			t.Fatalf("Texts(%d) = %d", -n, got)
		}
	}
}

// P9.1 (M2): both ways round.
func TestPut(t *testing.T) {
	const most, least, bound = math.MaxInt, math.MinInt, 1 << 31
	for _, x := range []struct {
		one, other int
		want       int64
	}{
		{0, 0, 4}, {0, 1, 4}, {0, 15, 4}, {0, 16, 5}, {0, 17, 5}, {0, 31, 5}, {0, 32, 6}, {64, 256, 24}, {64, 255, 23}, {63, 256, 23},
		{8, 8, 5}, {7, 8, 4}, {9, 7, 5}, {1, 15, 5}, {15, 15, 5}, {15, 16, 5}, {15, 17, 6}, {24, 24, 7}, {31, 31, 7},
		{-1, 0, 4}, {-1, -1, 4}, {-16, 0, 4}, {-1, 16, 5}, {-16, 16, 5}, {-16, 32, 6}, {-1, 15, 4}, {least, 0, 4}, {least, 16, 5}, {least, least, 4}, {-bound, 31, 5},
		{bound, 0, 1<<27 + 4}, {bound - 1, 0, 1<<27 + 3}, {bound + 1, 0, 1<<27 + 4}, {bound + 16, 0, 1<<27 + 4}, {2 * bound, 0, 1<<27 + 4}, {most, 0, 1<<27 + 4},
		{bound - 1, 1, 1<<27 + 4}, {bound - 16, 15, 1<<27 + 3}, {bound, 15, 1<<27 + 4}, {bound, 16, 1<<27 + 5}, {bound + 1, 15, 1<<27 + 4}, {most, 15, 1<<27 + 4}, {most, 16, 1<<27 + 5},
		{bound, bound, 1<<28 + 4}, {bound - 1, bound, 1<<28 + 3}, {bound - 1, bound - 1, 1<<28 + 3}, {bound + 1, bound, 1<<28 + 4}, {bound + 1, bound - 1, 1<<28 + 3}, {bound + 1, bound + 1, 1<<28 + 4},
		{most, most, 1<<28 + 4}, {most, bound, 1<<28 + 4}, {most, bound - 1, 1<<28 + 3}, {most, -1, 1<<27 + 4}, {most, least, 1<<27 + 4}, {bound, least, 1<<27 + 4},
	} {
		if got := Put(x.one, x.other); got != x.want {
			t.Errorf("Put(%d, %d) = %d; want %d", x.one, x.other, got, x.want)
		}
		if got := Put(x.other, x.one); got != x.want {
			t.Errorf("Put(%d, %d) = %d; want %d", x.other, x.one, got, x.want)
		}
	}
}

// P9.1 (M2): all lengths that a store takes, and some more.
func TestPutOfEachLength(t *testing.T) {
	for key := range api.MaxKey + 3 {
		for value := range api.MaxValue + 3 {
			sum := int64(key + value)
			if got, want := Put(key, value), 4+(sum-sum%16)/16; got != want {
				t.Fatalf("Put(%d, %d) = %d; want %d", key, value, got, want)
			}
		}
	}
}

// P3: a result hangs on the arguments alone, whatever was called in between.
func TestCallsAreApart(t *testing.T) {
	g := New(10)
	for range 3 {
		mustUse(t, g, 7, 7, true)
		mustUse(t, g, 11, 10, false)
		if other := New(api.MaxGas); other.Used != 0 {
			t.Error(other)
		}
		Use(New(3), 4)
		if Texts(31) != 1 || Put(8, 8) != 5 || Texts(-5) != 0 || Put(math.MaxInt, 0) != 1<<27+4 {
			t.Error("Texts or Put changed")
		}
	}
	if g != (api.Gas{Limit: 10}) {
		t.Error(g)
	}
}
