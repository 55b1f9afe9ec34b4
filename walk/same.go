package walk

import (
	"slices"

	"hackamore/api"
)

// SameType reports whether two types are equal in all fields. Here and below empty lists are equal to nil.
func SameType(a, b api.Type) bool {
	return a.Kind == b.Kind && a.Name == b.Name && a.Cap == b.Cap && a.Mark == b.Mark && slices.EqualFunc(a.Args, b.Args, SameType)
}

// SameValue reports whether two values are equal in all fields.
func SameValue(a, b api.Value) bool {
	return a.Kind == b.Kind && a.Lo == b.Lo && a.Hi == b.Hi && a.Name == b.Name && slices.EqualFunc(a.Kids, b.Kids, SameValue)
}

// SameProgram reports whether two programs are equal in all fields.
func SameProgram(a, b []api.Entity) bool { return slices.EqualFunc(a, b, sameEntity) }

func sameEntity(a, b api.Entity) bool {
	return a.Kind == b.Kind && a.Name == b.Name && a.Cap == b.Cap && slices.EqualFunc(a.Bounds, b.Bounds, sameBound) &&
		slices.EqualFunc(a.Provides, b.Provides, SameType) && slices.EqualFunc(a.Fields, b.Fields, sameField) &&
		slices.EqualFunc(a.Methods, b.Methods, sameMethod)
}

func sameBound(a, b api.Bound) bool { return a.Name == b.Name && SameType(a.Type, b.Type) }

func sameField(a, b api.Field) bool {
	return a.Name == b.Name && a.Let == b.Let && SameType(a.Type, b.Type)
}

func sameParam(a, b api.Param) bool { return a.Name == b.Name && SameType(a.Type, b.Type) }

func sameMethod(a, b api.Method) bool {
	return a.Kind == b.Kind && a.Name == b.Name && a.Cap == b.Cap && slices.EqualFunc(a.Bounds, b.Bounds, sameBound) &&
		slices.EqualFunc(a.Params, b.Params, sameParam) && SameType(a.Result, b.Result) && a.Partial == b.Partial &&
		sameExpr(a.Body, b.Body)
}

func sameExpr(a, b api.Expr) bool {
	return a.Op == b.Op && a.Text == b.Text && slices.EqualFunc(a.Types, b.Types, SameType) && slices.EqualFunc(a.Kids, b.Kids, sameExpr)
}
