package worker

import (
	"modillion/api"
	"modillion/state"
	"modillion/wire"
)

// mark is the byte that what is saved begins with. It is also how the number is
// written, as any below 128.
const mark = 83

// Save is all that he needs to go on, as bytes.
func (k *Worker) Save() string {
	o := wire.NewOut()
	o.Num(mark)
	o.Num(uint64(k.step))
	o.Num(uint64(len(k.now)))
	for _, s := range state.Rows(k.now) {
		o.Text(s)
	}
	return o.Done()
}

// Load goes on from that.
func (k *Worker) Load(s string) api.Errno {
	in := wire.NewIn(s)
	first, step, many := in.Num(), in.Num(), in.Num()
	if first != mark || step > uint64(k.job.Steps) || many != uint64(len(k.now)) {
		return api.ErrWorkForm
	}
	now, e := each(k.now, func(x api.Vertex) (api.Vertex, api.Errno) {
		// What can't be read is empty, which is no vertex.
		saved, e := state.Get(in.Text(in.Left()))
		if e != api.OK || saved.ID != x.ID || saved.Has {
			return api.Vertex{}, api.ErrWorkForm
		}
		return saved, api.OK
	})
	if e != api.OK || in.End() != api.OK {
		return api.ErrWorkForm
	}
	k.step, k.now, k.ahead = int(step), now, nil
	return api.OK
}
