package check_test

import (
	"reflect"
	"slices"
	"strings"
	"testing"

	"hackamore/api"
	"hackamore/check"
	"hackamore/generic"
	"hackamore/names"
	"hackamore/types"
)

// ty returns the type with a text, the zero Type for the empty one.
func ty(s string) api.Type {
	if s == "" {
		return api.Type{}
	}
	t, e := types.Parse(s)
	if e != api.OK {
		panic("no type: " + s)
	}
	return t
}

// tys returns types, by their texts with ; between them.
func tys(s string) []api.Type {
	if s == "" {
		return nil
	}
	var l []api.Type
	for part := range strings.SplitSeq(s, ";") {
		l = append(l, ty(strings.TrimSpace(part)))
	}
	return l
}

func text(t api.Type) string {
	if t.Kind == 0 {
		return ""
	}
	s, _ := types.Text(t)
	return s
}

// x returns an expression; tx one with a type.
func x(op int, text string, kids ...api.Expr) api.Expr {
	return api.Expr{Op: op, Text: text, Kids: kids}
}

func tx(op int, text, typ string, kids ...api.Expr) api.Expr {
	return api.Expr{Op: op, Text: text, Types: tys(typ), Kids: kids}
}

var (
	nothing = api.Expr{}
	this    = x(api.OpThis, "")
	fails   = x(api.OpError, "")
	yes     = tx(api.OpLit, "true", "Bool val")
	one     = tx(api.OpLit, "1", "U32 val")
	nix     = tx(api.OpUnit, "", "None val")
)

func local(name string) api.Expr { return x(api.OpLocal, name) }

func seq(l ...api.Expr) api.Expr { return x(api.OpSeq, "", l...) }

// program returns the reified program of a text of the package main.
func program(t testing.TB, text string) []api.Entity {
	t.Helper()
	p, e := names.Program(map[string]string{"main": text}, nil)
	if e != api.OK {
		t.Fatalf("names: error %d", e)
	}
	p, e = generic.Reify(p, "main.Main")
	if e != api.OK {
		t.Fatalf("generic: error %d", e)
	}
	return p
}

// at returns the numbers of a method.
func at(t testing.TB, p []api.Entity, entity, method string) (int, int) {
	t.Helper()
	i := slices.IndexFunc(p, func(e api.Entity) bool { return e.Name == entity })
	if i < 0 {
		t.Fatalf("no entity %s", entity)
	}
	j := slices.IndexFunc(p[i].Methods, func(m api.Method) bool { return m.Name == method })
	if j < 0 {
		t.Fatalf("no method %s", method)
	}
	return i, j
}

// same compares values, where empty lists are nil.
func same(a, b any) bool { return reflect.DeepEqual(plain(a), plain(b)) }

// plain puts nil in the place of empty lists.
func plain(a any) any {
	v := reflect.New(reflect.TypeOf(a)).Elem()
	v.Set(reflect.ValueOf(a))
	return plainValue(v).Interface()
}

func plainValue(v reflect.Value) reflect.Value {
	r := reflect.New(v.Type()).Elem()
	switch v.Kind() {
	case reflect.Slice:
		if v.Len() == 0 {
			return r
		}
		r.Set(reflect.MakeSlice(v.Type(), v.Len(), v.Len()))
		for i := range v.Len() {
			r.Index(i).Set(plainValue(v.Index(i)))
		}
	case reflect.Struct:
		for i := range v.NumField() {
			r.Field(i).Set(plainValue(v.Field(i)))
		}
	default:
		r.Set(v)
	}
	return r
}

// ruled is what a rule gives: the text of a type, or an error.
type ruled struct {
	typ string
	e   api.Errno
}

// rule asks for a rule in a context.
func rule(p []api.Entity, c check.Context, x api.Expr, kids string) ruled {
	t, e := check.Rule(p, c, x, tysOf(kids, len(x.Kids)))
	return ruled{text(t), e}
}

// tysOf returns as many types as there are Kids; a text that is too short stands for zero Types.
func tysOf(s string, n int) []api.Type {
	l := make([]api.Type, 0, n)
	if n > 0 {
		for part := range strings.SplitSeq(s, ";") {
			l = append(l, ty(strings.TrimSpace(part)))
		}
	}
	return l
}
