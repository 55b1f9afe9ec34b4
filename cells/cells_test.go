package cells_test

import (
	"testing"

	"hackamore/api"
	"hackamore/cells"
	"hackamore/check"
	"hackamore/generic"
	"hackamore/names"
	"hackamore/subtype"
)

// TestBodies: most bodies are right, and where parts are wrong, not all are.
func TestBodies(t *testing.T) {
	p, e := names.Program(map[string]string{"main": cells.Text}, nil)
	if e == api.OK {
		p, e = generic.Reify(p, "main.Main")
	}
	if e != api.OK {
		t.Fatalf("error %d", e)
	}
	if _, f, e := check.Check(p); e != api.OK {
		t.Fatalf("error %d at %v", e, f)
	}
	i, _ := subtype.Find(p, cells.Entity)
	j := 0
	for p[i].Methods[j].Name != cells.Method {
		j++
	}
	for _, wrong := range []int{0, 40} {
		codes, nodes := map[api.Errno]int{}, 0
		for seed := range uint64(1000) {
			body := cells.New(seed, wrong).Body(6)
			p[i].Methods[j].Body = body
			b, _, e := check.Method(p, i, j)
			codes[e]++
			nodes += len(b.Types)
		}
		if codes[api.OK] < 300 || wrong > 0 && codes[api.OK] > 900 {
			t.Errorf("wrong %d: errors %v", wrong, codes)
		}
		t.Logf("wrong %d: errors %v, %d nodes in right ones", wrong, codes, nodes)
	}
}
