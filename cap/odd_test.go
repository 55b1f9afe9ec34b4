package cap_test

import (
	"testing"

	"hackamore/api"
	. "hackamore/cap"
	"hackamore/samples"
)

// TestAnything: P7.1 for any yards and acts: no call panics, and with an error all results are zero values.
func TestAnything(t *testing.T) {
	right := 0
	for seed := range uint64(20000) {
		m := samples.New(seed)
		list := func(n int) []Held {
			var l []Held
			for range n {
				h := Held{m.Below(3) - m.Below(2), 1 + m.Below(6)}
				if m.Below(30) == 0 {
					h = Held{m.Number(), m.Number()}
				}
				l = append(l, h)
			}
			return l
		}
		var y Yard
		for range m.Below(6) {
			y.Holders = append(y.Holders, list(m.Below(3)))
		}
		for range m.Below(4) {
			y.Fields = append(y.Fields, list(2+m.Below(12)/11))
		}
		some := func(n int) int {
			if m.Below(15) == 0 {
				return m.Number()
			}
			return m.Below(n)
		}
		a := Act{some(7), some(3), some(3), some(3), some(7), some(2)}
		next, e := Do(y, a)
		if e == api.OK {
			right++
		}
		if e != api.OK && (len(next.Holders) > 0 || len(next.Fields) > 0) || e == api.OK && (Check(y) != api.OK || Check(next) != api.OK) {
			t.Fatalf("seed %d: %v, error %d", seed, next, e)
		}
		if l := Seen(y, m.Number()); Check(y) != api.OK && l != nil {
			t.Fatalf("seed %d: Seen: %v", seed, l)
		}
		if thing, w, r, found := Race(y); !found && (thing != 0 || w != 0 || r != 0) || found && Check(y) != api.OK {
			t.Fatalf("seed %d: Race: %d, %d, %d, %v", seed, thing, w, r, found)
		}
	}
	if right < 100 {
		t.Errorf("only %d acts were done", right)
	}
}
