package calls

import (
	"modillion/api"
	"modillion/audit"
	"modillion/batch"
	"modillion/book"
	"modillion/clash"
	"modillion/cluster"
	"modillion/commit"
	"modillion/fold"
	"modillion/graph"
	"modillion/hash"
	"modillion/journal"
	"modillion/judge"
	"modillion/many"
	"modillion/part"
	"modillion/prog"
	"modillion/script"
	"modillion/seq"
	"modillion/state"
	"modillion/tree"
	"modillion/wire"
	"modillion/worker"
)

// call is a call that a chapter lists.
type call struct {
	name string
	f    any
}

// listed is all of them, by chapters; each is held to its signature there.
func listed() []call {
	return []call{
		{"hash.Of", (func(parts ...[]byte) api.Hash)(hash.Of)},
		{"hash.Text", (func(h api.Hash) string)(hash.Text)},
		{"hash.Read", (func(s string) (api.Hash, api.Errno))(hash.Read)},
		{"hash.Less", (func(a, b api.Hash) bool)(hash.Less)},
		{"wire.NewOut", (func() *wire.Out)(wire.NewOut)},
		{"wire.Out.Num", (func(o *wire.Out, n uint64))((*wire.Out).Num)},
		{"wire.Out.Int", (func(o *wire.Out, n int64))((*wire.Out).Int)},
		{"wire.Out.Text", (func(o *wire.Out, s string))((*wire.Out).Text)},
		{"wire.Out.Hash", (func(o *wire.Out, h api.Hash))((*wire.Out).Hash)},
		{"wire.Out.Done", (func(o *wire.Out) string)((*wire.Out).Done)},
		{"wire.NewIn", (func(s string) *wire.In)(wire.NewIn)},
		{"wire.In.Num", (func(i *wire.In) uint64)((*wire.In).Num)},
		{"wire.In.Int", (func(i *wire.In) int64)((*wire.In).Int)},
		{"wire.In.Text", (func(i *wire.In, most int) string)((*wire.In).Text)},
		{"wire.In.Hash", (func(i *wire.In) api.Hash)((*wire.In).Hash)},
		{"wire.In.Err", (func(i *wire.In) api.Errno)((*wire.In).Err)},
		{"wire.In.End", (func(i *wire.In) api.Errno)((*wire.In).End)},
		{"wire.In.Left", (func(i *wire.In) int)((*wire.In).Left)},
		{"tree.Leaf", (func(s string) api.Hash)(tree.Leaf)},
		{"tree.Node", (func(a, b api.Hash) api.Hash)(tree.Node)},
		{"tree.Half", (func(n int) int)(tree.Half)},
		{"tree.Top", (func(l []string) api.Hash)(tree.Top)},
		{"tree.Root", (func(l []string) api.Hash)(tree.Root)},
		{"tree.Prove", (func(l []string, at int) ([]api.Hash, api.Errno))(tree.Prove)},
		{"tree.Check", (func(root api.Hash, n, at int, leaf string, proof []api.Hash) bool)(tree.Check)},
		{"tree.Deep", (func(n, at int) int)(tree.Deep)},
		{"many.Prove", (func(l []string, at []int) ([]api.Hash, api.Errno))(many.Prove)},
		{"many.Check", (func(root api.Hash, n int, at []int, leaves []string, proof []api.Hash) bool)(many.Check)},
		{"many.Size", (func(n int, at []int) int)(many.Size)},
		{"many.Rises", (func(n int, at []int) bool)(many.Rises)},
		{"graph.Check", (func(g api.Graph) api.Errno)(graph.Check)},
		{"graph.Norm", (func(g api.Graph) (api.Graph, api.Errno))(graph.Norm)},
		{"graph.Out", (func(g api.Graph, v int) []api.Edge)(graph.Out)},
		{"graph.In", (func(g api.Graph, v int) []api.Edge)(graph.In)},
		{"graph.Show", (func(g api.Graph) (string, api.Errno))(graph.Show)},
		{"graph.Read", (func(s string) (api.Graph, int, api.Errno))(graph.Read)},
		{"part.Mix", (func(v uint32) uint32)(part.Mix)},
		{"part.Owner", (func(v, workers int) int)(part.Owner)},
		{"part.Of", (func(n, workers, w int) ([]int, api.Errno))(part.Of)},
		{"part.Place", (func(n, workers, v int) (int, int, api.Errno))(part.Place)},
		{"prog.Check", (func(g api.Graph, j api.Job) api.Errno)(prog.Check)},
		{"prog.First", (func(j api.Job, v int) api.Vertex)(prog.First)},
		{"prog.Step", (func(g api.Graph, j api.Job, step int, x api.Vertex) (api.Vertex, []api.Msg, api.Errno))(prog.Step)},
		{"prog.Fold", (func(tag string, a, b int64) (int64, api.Errno))(prog.Fold)},
		{"prog.Known", (func(tag string) bool)(prog.Known)},
		{"fold.Sort", (func(l []api.Msg) []api.Msg)(fold.Sort)},
		{"fold.Check", (func(g api.Graph, l []api.Msg) api.Errno)(fold.Check)},
		{"fold.To", (func(l []api.Msg, v int) []api.Msg)(fold.To)},
		{"fold.From", (func(l []api.Msg, v int) []api.Msg)(fold.From)},
		{"fold.Came", (func(tag string, l []api.Msg, v int) (int64, bool, api.Errno))(fold.Came)},
		{"fold.Split", (func(workers int, l []api.Msg) ([][]api.Msg, api.Errno))(fold.Split)},
		{"seq.Start", (func(g api.Graph, j api.Job) ([]api.Vertex, api.Errno))(seq.Start)},
		{"seq.Next", (func(g api.Graph, j api.Job, at int, l []api.Vertex) ([]api.Vertex, []api.Msg, api.Errno))(seq.Next)},
		{"seq.Quiet", (func(l []api.Vertex) bool)(seq.Quiet)},
		{"seq.Values", (func(l []api.Vertex) []int64)(seq.Values)},
		{"seq.Run", (func(g api.Graph, j api.Job) ([]int64, int, api.Errno))(seq.Run)},
		{"state.Put", (func(x api.Vertex) string)(state.Put)},
		{"state.Get", (func(s string) (api.Vertex, api.Errno))(state.Get)},
		{"state.Check", (func(x api.Vertex) api.Errno)(state.Check)},
		{"state.Rows", (func(l []api.Vertex) []string)(state.Rows)},
		{"state.Root", (func(l []api.Vertex) api.Hash)(state.Root)},
		{"state.Own", (func(l []api.Vertex, workers, w int) []api.Vertex)(state.Own)},
		{"batch.Put", (func(l []api.Msg) (string, api.Errno))(batch.Put)},
		{"batch.Get", (func(s string) ([]api.Msg, api.Errno))(batch.Get)},
		{"batch.Rows", (func(l []api.Msg) []string)(batch.Rows)},
		{"batch.Root", (func(l []api.Msg) api.Hash)(batch.Root)},
		{"batch.Check", (func(l []api.Msg) api.Errno)(batch.Check)},
		{"commit.Put", (func(c api.Commit) (string, api.Errno))(commit.Put)},
		{"commit.Get", (func(s string) (api.Commit, api.Errno))(commit.Get)},
		{"commit.Make", (func(w, step int, l []api.Vertex, out [][]api.Msg) (api.Commit, api.Errno))(commit.Make)},
		{"commit.Keeps", (func(c api.Commit, l []api.Vertex, out [][]api.Msg) bool)(commit.Keeps)},
		{"worker.New", (func(g api.Graph, j api.Job, workers, w int) (*worker.Worker, api.Errno))(worker.New)},
		{"worker.Worker.Step", (func(k *worker.Worker) int)((*worker.Worker).Step)},
		{"worker.Worker.Vertices", (func(k *worker.Worker) []api.Vertex)((*worker.Worker).Vertices)},
		{"worker.Worker.Root", (func(k *worker.Worker) api.Hash)((*worker.Worker).Root)},
		{"worker.Worker.Do", (func(k *worker.Worker, at int, in []api.Msg) api.Reply)((*worker.Worker).Do)},
		{"worker.Worker.Open", (func(k *worker.Worker, place int) (api.Opening, api.Errno))((*worker.Worker).Open)},
		{"worker.Worker.Save", (func(k *worker.Worker) string)((*worker.Worker).Save)},
		{"worker.Worker.Load", (func(k *worker.Worker, s string) api.Errno)((*worker.Worker).Load)},
		{"audit.Reply", (func(g api.Graph, j api.Job, workers, w, at int, r api.Reply) (api.Commit, []api.Msg, api.Errno))(audit.Reply)},
		{"audit.One", (func(g api.Graph, j api.Job, workers, w, at int, prev, now api.Hash, in, sent []api.Msg, o api.Opening) api.Errno)(audit.One)},
		{"audit.Places", (func(n, k int, draws []uint32) []int)(audit.Places)},
		{"audit.Right", (func(g api.Graph, j api.Job, workers, w, at int) bool)(audit.Right)},
		{"judge.Of", (func(g api.Graph, j api.Job, c api.Case) api.Verdict)(judge.Of)},
		{"judge.Cheats", (func(e api.Errno) bool)(judge.Cheats)},
		{"judge.Guilty", (func(g api.Graph, j api.Job, c api.Case) bool)(judge.Guilty)},
		{"judge.Asked", (func(g api.Graph, j api.Job, c api.Case) []int)(judge.Asked)},
		{"journal.Sum", (func(last api.Hash, record string) api.Hash)(journal.Sum)},
		{"journal.Append", (func(log, record string) (string, api.Errno))(journal.Append)},
		{"journal.Read", (func(log string) ([]string, int))(journal.Read)},
		{"journal.Cut", (func(log string, n int) string)(journal.Cut)},
		{"book.New", (func(g api.Graph, j api.Job, workers int) (api.Book, api.Errno))(book.New)},
		{"book.Accepts", (func(b api.Book, l []api.Verdict) (string, api.Errno))(book.Accepts)},
		{"book.Evicts", (func(b api.Book, w int) (string, api.Errno))(book.Evicts)},
		{"book.Apply", (func(g api.Graph, j api.Job, b api.Book, record string) (api.Book, api.Errno))(book.Apply)},
		{"book.Recover", (func(g api.Graph, j api.Job, workers int, records []string) (api.Book, int, api.Errno))(book.Recover)},
		{"cluster.Run", (func(g api.Graph, j api.Job, workers, k, retry int, draws []uint32, lies []api.Lie) (api.Outcome, api.Errno))(cluster.Run)},
		{"cluster.Rotate", (func(draws []uint32, at int) []uint32)(cluster.Rotate)},
		{"clash.Rows", (func(n, at int, leaf string, proof []api.Hash) ([]string, api.Errno))(clash.Rows)},
		{"clash.Find", (func(n, at int, a string, p []api.Hash, b string, q []api.Hash) (string, string, bool))(clash.Find)},
		{"clash.Is", (func(x, y string) bool)(clash.Is)},
		{"script.Check", (func(x api.Script) bool)(script.Check)},
		{"script.Show", (func(x api.Script) (string, api.Errno))(script.Show)},
		{"script.Read", (func(s string) (api.Script, api.Errno))(script.Read)},
		{"script.Tell", (func(o api.Outcome) string)(script.Tell)},
		{"script.Run", (func(s string) (string, api.Errno))(script.Run)},
	}
}
