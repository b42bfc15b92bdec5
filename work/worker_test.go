package work

import (
	"bytes"
	"math"
	"runtime"
	"slices"
	"sync"
	"sync/atomic"
	"testing"
	"time"

	"tarn/api"
	"tarn/grid"
	"tarn/split"
	"tarn/state"
)

const patience = 30 * time.Second // far more than what is waited for takes

// crew: so many workers without a part.
func crew(n int) []*worker {
	out := make([]*worker, n)
	for k := range out {
		out[k] = &worker{}
	}
	return out
}

// P23.1: workers work at the same time: here each of them waits till all have come.
func TestAtOnce(t *testing.T) {
	for _, n := range []int{1, 2, 24, 64} {
		ended := make(chan bool)
		go func() {
			var come sync.WaitGroup
			come.Add(n)
			atOnce(crew(n), func(*worker) {
				come.Done()
				come.Wait()
			})
			close(ended)
		}()
		select {
		case <-ended:
		case <-time.After(patience):
			t.Fatalf("%d workers wait for one another for ever", n)
		}
	}
}

// P23.2: each worker works once, and all have ended when the phase has, the slow ones too.
func TestAllHaveEnded(t *testing.T) {
	for _, n := range []int{1, 2, 24, 64} {
		workers := crew(n)
		var ended atomic.Int64
		atOnce(workers, func(w *worker) {
			if w == workers[0] {
				time.Sleep(20 * time.Millisecond)
			}
			w.part.Cells = append(w.part.Cells, 1)
			ended.Add(1)
		})
		if got := ended.Load(); got != int64(n) {
			t.Errorf("%d workers of %d have ended", got, n)
		}
		for k, w := range workers {
			if len(w.part.Cells) != 1 {
				t.Errorf("worker %d of %d has worked %d times", k, n, len(w.part.Cells))
			}
		}
	}
}

// P23.1: one behind the other, in the order that is stated.
func TestInOrder(t *testing.T) {
	pick := newPicker()
	for n := 1; n <= 64; n++ {
		for _, order := range [][]int{upTo(n), opposite(upTo(n)), pick.order(n)} {
			workers := crew(n)
			var done []int
			inOrder(order)(workers, func(w *worker) { done = append(done, slices.Index(workers, w)) })
			if !slices.Equal(done, order) {
				t.Errorf("the order %v was %v", order, done)
			}
		}
	}
}

// goroutines there are. The library's number of them is reckoned while they come and go, and may be another one.
func goroutines() int {
	stacks := make([]byte, 1<<20)
	stacks = stacks[:runtime.Stack(stacks, true)]
	return 1 + bytes.Count(stacks, []byte("\n\ngoroutine "))
}

// mostWhile: the most goroutines that are seen while something is done.
func mostWhile(done func()) int {
	var stop atomic.Bool
	counts := make(chan int)
	go func() {
		most := 0
		for !stop.Load() {
			most = max(most, goroutines())
			runtime.Gosched()
		}
		counts <- most
	}()
	done()
	stop.Store(true)
	return <-counts
}

// P23.1, P23.2: One has many goroutines while it works, and none of them when it has answered.
func TestGoroutines(t *testing.T) {
	g, pick := made(t, 16), newPicker()
	p, s := pick.plan(g, gentle), pick.sea(g, gentle)
	const workers = 64
	ahead := goroutines()
	deadline := time.Now().Add(patience)
	for seen := 0; seen < ahead+workers/2; {
		seen = mostWhile(func() { One(g, p, s, workers) })
		if time.Now().After(deadline) {
			t.Fatalf("no more than %d goroutines of %d workers are seen", seen-ahead, workers)
		}
	}
	for goroutines() > ahead { // one that has ended may still be there for a moment
		if time.Now().After(deadline) {
			t.Fatalf("%d goroutines ahead, %d behind", ahead, goroutines())
		}
		time.Sleep(time.Millisecond)
	}
}

// lists of a job, as bits, by phases.
func (j *job) lists(phase int) [][]int64 {
	switch phase {
	case 0:
		speeds := make([]int64, len(j.speeds))
		for e, u := range j.speeds {
			speeds[e] = int64(math.Float64bits(u))
		}
		return [][]int64{speeds, j.wished}
	case 1:
		return [][]int64{j.flow.Water, j.flow.Tracer}
	}
	return [][]int64{j.water, j.tracer}
}

// phases of a step of this sea.
func phases(s api.Sea) []func(w *worker) {
	return []func(w *worker){
		func(w *worker) {
			w.look(s)
			w.push()
		},
		(*worker).give,
		(*worker).settle,
	}
}

// elsewhere: the sea with other numbers wherever a part doesn't see.
func elsewhere(pick *picker, s api.Sea, w *worker) api.Sea {
	s = state.Copy(s)
	for cell := range s.Bed {
		if !slices.Contains(w.part.Cells, cell) && !slices.Contains(w.part.Halo, cell) {
			s.Bed[cell], s.Water[cell], s.Tracer[cell] = pick.signed(9), int64(pick.below(1<<31)), int64(pick.below(1<<31))
		}
	}
	for e := range s.Speed {
		if !slices.Contains(w.part.Edges, e) {
			s.Speed[e] = pick.signed(9)
		}
	}
	s.Sky = int64(pick.below(1 << 31))
	return s
}

// P23.1: what a worker does hangs on its part alone: on no number of the sea that its part doesn't see.
func TestPartsSeeNoMore(t *testing.T) {
	pick := newPicker()
	for _, side := range []int{1, 2, 3} {
		g := made(t, side)
		for _, kind := range []int{gentle, thin, wild} {
			p, s := pick.plan(g, kind), pick.sea(g, kind)
			for _, parts := range []int{1, 2, 5, 24, 64} {
				j := newJob(g, p)
				workers := j.shared(parts)
				for n, phase := range phases(s) {
					atOnce(workers, phase)
					for k, w := range workers {
						if !sameWork(j, w, n, elsewhere(pick, s, w)) {
							t.Fatalf("side %d, kind %d: phase %d of part %d of %d hangs on more than it sees", side, kind, n, k, parts)
						}
					}
				}
			}
		}
	}
}

// sameWork: whether a worker that makes a phase anew, out of another sea, writes what stands there already.
func sameWork(j *job, w *worker, phase int, s api.Sea) bool {
	again := newJob(j.g, j.p)
	again.speeds, again.wished, again.flow = slices.Clone(j.speeds), slices.Clone(j.wished), api.Flow{Water: slices.Clone(j.flow.Water), Tracer: slices.Clone(j.flow.Tracer)}
	again.water, again.tracer = slices.Clone(j.water), slices.Clone(j.tracer)
	other := &worker{job: again, part: w.part}
	other.look(s)
	phases(s)[phase](other)
	for k, list := range again.lists(phase) {
		if !slices.Equal(list, j.lists(phase)[k]) {
			return false
		}
	}
	return true
}

// P23.2: each worker writes elements that no other one writes in the phase, and all of them together all there are; of the
// second phase, in which nothing is written where nothing goes, those that aren't 0.
func TestOwnElements(t *testing.T) {
	pick := newPicker()
	for _, side := range []int{1, 2, 3} {
		g := made(t, side)
		for _, parts := range []int{1, 2, 5, 24, 64} {
			p, s := pick.plan(g, thin), pick.sea(g, thin)
			j := newJob(g, p)
			workers := j.shared(parts)
			for n, phase := range phases(s) {
				atOnce(workers, phase)
				for k, list := range j.lists(n) {
					times := writers(j, workers, n, phase, k)
					for at, x := range list {
						if times[at] != 1 && (n != 1 || times[at] != 0 || x != 0) {
							t.Fatalf("side %d, %d parts: place %d of list %d is written %d times in phase %d", side, parts, at, k, times[at], n)
						}
					}
				}
			}
		}
	}
}

// writers: how many workers write each place of a list in a phase of a job, of which the phases ahead have been made.
func writers(j *job, workers []*worker, n int, phase func(w *worker), list int) []int {
	const untouched = -0x123456789
	times := make([]int, len(j.lists(n)[list]))
	for _, w := range workers {
		alone := newJob(j.g, j.p)
		if n > 0 {
			alone.wished = j.wished
		}
		if n > 1 {
			alone.flow = j.flow
		}
		mark(alone, n, untouched)
		phase(&worker{job: alone, part: w.part, seen: w.seen})
		for at, x := range alone.lists(n)[list] {
			if x != untouched {
				times[at]++
			}
		}
	}
	return times
}

// mark all that a phase may write.
func mark(j *job, phase int, by int64) {
	switch phase {
	case 0:
		spoil(j.speeds, math.Float64frombits(uint64(by)))
		spoil(j.wished, by)
	case 1:
		spoil(j.flow.Water, by)
		spoil(j.flow.Tracer, by)
	default:
		spoil(j.water, by)
		spoil(j.tracer, by)
	}
}

// P23.1: what a worker sees is layer 22's Local of its part.
func TestLook(t *testing.T) {
	pick := newPicker()
	g := made(t, 3)
	s := pick.sea(g, wild)
	for _, parts := range []int{1, 5, 64} {
		workers := newJob(g, api.Plan{}).shared(parts)
		atOnce(workers, func(w *worker) { w.look(s) })
		for k, w := range workers {
			want, errno := split.Local(g, w.part, s)
			if errno != api.OK || !state.Same(w.seen, want) {
				t.Fatalf("part %d of %d sees\n%v, want\n%v", k, parts, w.seen, want)
			}
		}
	}
}

// P23.1: the parts are those of layer 22, one for each worker, those without cells too.
func TestShared(t *testing.T) {
	for _, side := range []int{1, 2, 5} {
		g := made(t, side)
		for parts := 1; parts <= 64; parts++ {
			workers := newJob(g, api.Plan{}).shared(parts)
			if len(workers) != parts {
				t.Fatalf("side %d: %d workers, want %d", side, len(workers), parts)
			}
			var cells []int
			for k, w := range workers {
				if len(w.part.Cells) != (k+1)*g.Cells()/parts-k*g.Cells()/parts {
					t.Fatalf("side %d: part %d of %d has the cells %v", side, k, parts, w.part.Cells)
				}
				cells = append(cells, w.part.Cells...)
			}
			if !slices.Equal(cells, upTo(g.Cells())) {
				t.Fatalf("side %d: %d parts have the cells %v", side, parts, cells)
			}
		}
	}
}

// inwardOf: what a model by the net's edges brings into a cell.
func inwardOf(g *grid.Grid, flows []int64, cell int) int64 {
	sum := int64(0)
	for e, n := range flows {
		two, _ := g.Edge(e)
		if two.Left == cell {
			sum -= n
		}
		if two.Right == cell {
			sum += n
		}
	}
	return sum
}

// P23.1: flows are brought in over each side by its edge, from either cell.
func TestInward(t *testing.T) {
	pick := newPicker()
	for _, side := range []int{1, 2, 3} {
		g := made(t, side)
		flows := make([]int64, g.Edges())
		for e := range flows {
			flows[e] = int64(pick.below(2*most)) - most
		}
		j := newJob(g, api.Plan{})
		for cell := range g.Cells() {
			comes := j.inward(flows, cell)
			if want := inwardOf(g, flows, cell); len(comes) != 4 || total(comes) != want {
				t.Fatalf("side %d: into cell %d come %v, want %d", side, cell, comes, want)
			}
			for over, n := range comes {
				if e, sign := g.Around(cell, over); n != -int64(sign)*flows[e] {
					t.Fatalf("side %d: into cell %d come %v", side, cell, comes)
				}
			}
		}
	}
}
