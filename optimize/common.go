package optimize

import (
	"slices"
	"strconv"
	"strings"

	"hackamore/api"
	"hackamore/blocks"
	"hackamore/ssa"
)

// likeness is what instructions that are alike have in common; of phis the block is a part of it.
type likeness struct {
	op, block, n, count int
	args                [4]int
	rest                string
}

// site is where a value is used: at a place, by an instruction, or by an end (nil).
type site struct {
	blocks.Place
	by *ssa.Ins
}

// finder of instructions that are alike: where values are made and used, and which blocks dominate which.
type common struct {
	*editor
	sites  map[int][]site
	makers map[int]blocks.Place
	in     []int // when a walk over the tree of dominators comes to a block, and when it has left it
	out    []int
}

// ahead is the block in which parameters are made.
const ahead = -1

// common finds instructions that give the same, as long as there are some.
func (e *editor) common() {
	c := &common{editor: e}
	c.dominate()
	for before := -1; before < len(e.steps); {
		before = len(e.steps)
		c.look()
		c.round()
	}
}

// dominate finds out which blocks dominate which.
func (c *common) dominate() {
	over, _ := ssa.Dominators(*c.f)
	below := make([][]int, len(over))
	for b, a := range over {
		if a >= 0 {
			below[a] = append(below[a], b)
		}
	}
	c.in, c.out = make([]int, len(over)), make([]int, len(over))
	time := 0
	var visit func(b int)
	visit = func(b int) {
		c.in[b] = time
		for _, next := range below[b] {
			time++
			visit(next)
		}
		time++
		c.out[b] = time
	}
	visit(0)
}

// look finds where values are made and used. Phis, and the Results of tries, are made at the beginnings of blocks, and the
// arguments of phis are used at the ends of the blocks ahead.
func (c *common) look() {
	c.sites, c.makers = make(map[int][]site), make(map[int]blocks.Place)
	for v := range c.f.Params {
		c.makers[v] = blocks.Place{Block: ahead}
	}
	preds := blocks.Preds(c.f)
	for at, x := range blocks.All(c.f) {
		b := c.f.Blocks[at.Block]
		switch {
		case x.Op == gone:
			continue
		case at.At == len(b.Ins):
			c.makers[x.Result] = blocks.Place{Block: b.End.To[0], At: -1}
		case x.Op == ssa.Phi:
			c.makers[x.Result] = blocks.Place{Block: at.Block, At: -1}
		default:
			c.makers[x.Result] = at
		}
		for k, v := range x.Args {
			where := at
			if x.Op == ssa.Phi {
				p := preds[at.Block][k]
				where = blocks.Place{Block: p, At: len(c.f.Blocks[p].Ins)}
			}
			c.use(v, site{where, x})
		}
	}
	for i, b := range c.f.Blocks {
		for _, v := range b.End.Args {
			c.use(v, site{blocks.Place{Block: i, At: len(b.Ins)}, nil})
		}
	}
}

func (c *common) use(v int, s site) {
	v = c.find(v)
	c.sites[v] = append(c.sites[v], s)
}

// round goes through all instructions once.
func (c *common) round() {
	groups := make(map[likeness][]*ssa.Ins)
	for i := range c.f.Blocks {
		l := c.f.Blocks[i].Ins
	instructions:
		for j := range l {
			x := &l[j]
			if !isPure(x) && x.Op != ssa.Phi {
				continue
			}
			k := c.likeness(i, x)
			for _, y := range groups[k] {
				switch {
				case y.Op == gone || c.likeness(i, y) != k:
				case c.mayReplace(x, y):
					c.merge(x, y)
					continue instructions
				case c.mayReplace(y, x):
					c.merge(y, x)
				}
			}
			groups[k] = append(groups[k], x)
		}
	}
}

// merge puts the value of an instruction in the place of that of another one, which goes.
func (c *common) merge(x, y *ssa.Ins) {
	c.record(Step{Kind: StepCommon, A: x.Result, B: y.Result})
	c.names[x.Result] = y.Result
	c.sites[y.Result] = append(c.sites[y.Result], c.sites[x.Result]...)
	x.Op = gone
}

// mayReplace reports whether the value of an instruction is there wherever that of another one, which goes, is used.
func (c *common) mayReplace(x, y *ssa.Ins) bool {
	at := c.makers[y.Result]
	return !slices.ContainsFunc(c.sites[x.Result], func(s site) bool {
		switch {
		case s.by == x || s.by != nil && s.by.Op == gone:
			return false
		case at.Block == s.Block:
			return at.At >= s.At
		}
		return c.in[at.Block] > c.in[s.Block] || c.out[s.Block] > c.out[at.Block]
	})
}

// likeness returns what an instruction of a block has in common with those that are alike.
func (c *common) likeness(block int, x *ssa.Ins) likeness {
	k := likeness{op: x.Op, block: ahead, n: x.N, count: len(x.Args)}
	if x.Op == ssa.Phi {
		k.block = block
	}
	var rest strings.Builder
	for i, v := range x.Args {
		if v = c.find(v); i < len(k.args) {
			k.args[i] = v
		} else {
			word(&rest, strconv.Itoa(v))
		}
	}
	word(&rest, x.Text)
	word(&rest, x.Name)
	writeType(&rest, x.Type)
	writeValue(&rest, x.Lit)
	if x.Flag {
		word(&rest, "flag")
	}
	k.rest = rest.String()
	return k
}

// word writes a word, so that it can be told where it ends.
func word(b *strings.Builder, s string) {
	b.WriteString(strconv.Itoa(len(s)))
	b.WriteByte(':')
	b.WriteString(s)
}

func writeType(b *strings.Builder, t api.Type) {
	word(b, t.Name)
	for _, n := range [...]int{t.Kind, t.Cap, t.Mark, len(t.Args)} {
		word(b, strconv.Itoa(n))
	}
	for _, a := range t.Args {
		writeType(b, a)
	}
}

func writeValue(b *strings.Builder, v api.Value) {
	word(b, v.Name)
	for _, n := range [...]uint64{uint64(v.Kind), v.Lo, v.Hi, uint64(len(v.Kids))} {
		word(b, strconv.FormatUint(n, 16))
	}
	for _, k := range v.Kids {
		writeValue(b, k)
	}
}
