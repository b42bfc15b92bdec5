package work

import (
	"slices"

	"tarn/api"
	"tarn/flux"
	"tarn/force"
	"tarn/grid"
	"tarn/mass"
	"tarn/rain"
	"tarn/recon"
	"tarn/river"
	"tarn/share"
	"tarn/split"
	"tarn/tracer"
)

const sides = 4 // of a cell

// The layers below tell no error of what checked takes, so that none is asked for behind it.

// job: a step in the making. Workers write its lists, each elements that no other one writes in that phase, and read of them
// what all have ended in the phases ahead.
type job struct {
	g *grid.Grid
	p api.Plan

	speeds []float64 // by edges
	wished []int64   // by edges: the flow of water if there were enough of it
	flow   api.Flow  // by edges
	water  []int64   // by cells
	tracer []int64   // by cells
}

func newJob(g *grid.Grid, p api.Plan) *job {
	cells, edges := g.Cells(), g.Edges()
	return &job{
		g:      g,
		p:      p,
		speeds: make([]float64, edges),
		wished: make([]int64, edges),
		flow:   api.Flow{Water: make([]int64, edges), Tracer: make([]int64, edges)},
		water:  make([]int64, cells),
		tracer: make([]int64, cells),
	}
}

// worker: one part of a job, and all that it sees of the sea.
type worker struct {
	*job
	part split.Part
	seen api.Sea
}

// shared among so many workers.
func (j *job) shared(parts int) []*worker {
	list, _ := split.Split(j.g, parts)
	workers := make([]*worker, len(list))
	for k, part := range list {
		workers[k] = &worker{job: j, part: part}
	}
	return workers
}

func (w *worker) look(s api.Sea) {
	w.seen, _ = split.Local(w.g, w.part, s)
}

// push: new speeds over the part's edges, and what would go over them.
func (w *worker) push() {
	for _, e := range w.part.Edges {
		u := force.Speed(w.g, w.p, w.seen, e)
		depth := recon.Depth(w.g, w.p.Limiter, w.seen, e, u)
		w.speeds[e] = u
		w.wished[e] = flux.Quanta(u, depth, w.g.Length(e), w.p.Dt)
	}
}

// give: what goes out of the part's cells. Only one of an edge's two cells gives over it, so that the edge is written once,
// by the part of that cell, be it the edge's own part or not.
func (w *worker) give() {
	for _, cell := range w.part.Cells {
		has := w.seen.Water[cell]
		outs := w.inward(w.wished, cell)
		for over, n := range outs {
			outs[over] = max(0, -n)
		}
		given, _ := share.Cut(has, outs)
		takes, _ := tracer.Takes(has, w.seen.Tracer[cell], given)
		for over, out := range outs {
			if out > 0 {
				e, sign := w.g.Around(cell, over)
				w.flow.Water[e] = int64(sign) * given[over]
				w.flow.Tracer[e] = int64(sign) * takes[over]
			}
		}
	}
}

// settle: what the part's cells have behind the flows.
func (w *worker) settle() {
	for _, cell := range w.part.Cells {
		w.water[cell], _ = mass.Total(w.inward(w.flow.Water, cell), w.seen.Water[cell])
		w.tracer[cell], _ = mass.Total(w.inward(w.flow.Tracer, cell), w.seen.Tracer[cell])
	}
}

// inward: what these flows bring into a cell over each of its sides; below 0: what they take out of it.
func (j *job) inward(flows []int64, cell int) []int64 {
	comes := make([]int64, sides)
	for over := range sides {
		e, sign := j.g.Around(cell, over)
		comes[over] = -int64(sign) * flows[e]
	}
	return comes
}

// weathered: the sea behind the step, of which s is the one ahead, once all workers have ended.
func (j *job) weathered(s api.Sea) api.Sea {
	next := api.Sea{
		Bed:    slices.Clone(s.Bed),
		Tracer: j.tracer,
		Speed:  j.speeds,
		Step:   min(s.Step+1, api.MaxStep),
	}
	next.Water, next.Sky, _ = rain.Fall(j.water, s.Sky, j.p.Rains, s.Step)
	if j.p.Rivers {
		next.Water, next.Tracer, _ = river.Run(j.g, next)
	}
	return next
}
