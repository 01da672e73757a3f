package expr

import (
	"slices"
	"strings"

	"indenture/api"
	"indenture/konst"
	"indenture/lit"
	"indenture/nat"
	"indenture/rat"
	"indenture/sel"
	"indenture/src"
)

// last is the last place of a text; -1, if it isn't there.
func last(l []string, s string) int {
	for i := len(l) - 1; i >= 0; i-- {
		if l[i] == s {
			return i
		}
	}
	return -1
}

// declared is the place of the package's declaration of a name, if that is neither a variable nor a type param there; -1, if there is none.
func (k *looker) declared(name string) int {
	if last(k.v.Names, name) >= 0 || last(k.v.Ctx.Params, name) >= 0 {
		return -1
	}
	if i, ok := k.places[label{k.v.Ctx.Pkg, name}]; ok {
		return i
	}
	return -1
}

// imported tells whether an NSel is of a package's name.
func (k *looker) imported(i int) bool {
	n := k.node(i)
	x := k.node(n.Kids[0])
	if n.Kind != api.NSel || x.Kind != api.NName || last(k.v.Names, x.Text) >= 0 || last(k.v.Ctx.Params, x.Text) >= 0 {
		return false
	}
	_, here := k.places[label{k.v.Ctx.Pkg, x.Text}]
	return !here && slices.Contains(k.w.Prog.Files[k.v.Ctx.File].Imports, x.Text)
}

// told is the place of the declaration that an NName, or an NSel of a package's name, tells; -1, if it tells none.
func (k *looker) told(i int) int {
	n := k.node(i)
	switch {
	case n.Kind == api.NName:
		return k.declared(n.Text)
	case n.Kind == api.NSel && k.imported(i):
		if at, ok := k.places[label{k.node(n.Kids[0]).Text, n.Text}]; ok {
			return at
		}
	}
	return -1
}

func (k *looker) name(i int) api.Oper {
	s := k.node(i).Text
	if s == "_" {
		k.fail(i, api.ErrType)
	}
	if at := last(k.v.Names, s); at >= 0 {
		return variable(k.v.Types[at])
	}
	if d := k.declared(s); d >= 0 {
		return k.declaration(i, d)
	}
	if last(k.v.Ctx.Params, s) >= 0 {
		return k.typ(i)
	}
	switch s {
	case "true", "false":
		return constant(api.UBool, api.Val{Kind: api.VBool, B: s == "true"})
	case "nil":
		return api.Oper{Mode: api.MNil, Type: api.UNil}
	}
	return k.typ(i)
}

// declaration is what a declaration is that a node tells.
func (k *looker) declaration(i, d int) api.Oper {
	kind, o := k.w.Prog.Decls[d].Kind, k.w.Objs[d]
	if kind == api.DType {
		return k.typ(i)
	}
	if o.Type < 0 || kind != api.DConst && untyped(o.Type) {
		k.fail(i, api.ErrCycle)
	}
	switch {
	case kind == api.DConst:
		v, e := konst.Fits(o.Val, k.mustForm(i, o.Type))
		if e != api.OK {
			k.fail(i, api.ErrCycle)
		}
		return constant(o.Type, v)
	case kind == api.DVar:
		return variable(o.Type)
	case len(o.Bounds) > 0:
		return api.Oper{Mode: api.MGen, Type: o.Type, Bounds: slices.Clone(o.Bounds)}
	}
	return value(o.Type)
}

func (k *looker) literal(i int) api.Oper {
	n := k.node(i)
	switch n.Kind {
	case api.NInt:
		x, e := lit.Int(n.Text)
		k.must(i, e)
		return constant(api.UInt, wholeVal(x))
	case api.NFloat:
		r, e := lit.Float(n.Text)
		k.must(i, e)
		return constant(api.UFloat, api.Val{Kind: api.VNum, R: r})
	case api.NRune:
		r, e := lit.Rune(n.Text)
		k.must(i, e)
		return constant(api.URune, wholeVal(nat.Of(uint64(r))))
	}
	s, e := lit.Text(n.Text)
	k.must(i, e)
	if len(s) > api.MaxText {
		k.fail(i, api.ErrMany)
	}
	return constant(api.UString, api.Val{Kind: api.VString, S: s})
}

// wholeVal is the value of a natural number.
func wholeVal(n api.Nat) api.Val {
	r, _ := rat.Make(false, n, nat.Of(1))
	return api.Val{Kind: api.VNum, R: r}
}

func (k *looker) sel(i int) api.Oper {
	n := k.node(i)
	if k.imported(i) {
		d := k.told(i)
		if d < 0 || !src.Public(n.Text) {
			k.fail(i, api.ErrNone)
		}
		return k.declaration(i, d)
	}
	x := k.look(n.Kids[0])
	if !isValue(x) || untyped(x.Type) {
		k.fail(i, api.ErrType)
	}
	if n.Text == "_" || !src.Public(n.Text) && k.foreign(x.Type) {
		k.fail(i, api.ErrNone)
	}
	if t := k.w.Unit.Types[x.Type]; t.Kind == api.KParam {
		return value(k.boundMethod(i, t.N, n.Text))
	}
	u, s, e := sel.Find(k.w.Unit, x.Type, n.Text)
	k.must(i, e)
	k.w.Unit = u
	if !s.Method && (x.Mode == api.MVar || s.Via) {
		return variable(s.Type)
	}
	if s.Method && s.Ptr && !s.Via && x.Mode != api.MVar {
		k.fail(i, api.ErrType)
	}
	return value(s.Type)
}

// foreign tells whether a type, or what it points to, has a name of another package.
func (k *looker) foreign(i int) bool {
	t := k.w.Unit.Types[i]
	if t.Kind == api.KPtr {
		t = k.w.Unit.Types[t.Kids[0]]
	}
	return t.Kind == api.KNamed && !strings.HasPrefix(t.Name, k.v.Ctx.Pkg+".")
}

// boundMethod is the function of a method that a type param's bound has.
func (k *looker) boundMethod(i, param int, name string) int {
	if param < len(k.v.Ctx.Bounds) {
		b := k.w.Unit.Types[k.v.Ctx.Bounds[param]]
		if at := last(b.Words, name); at >= 0 {
			return b.Kids[at]
		}
	}
	k.fail(i, api.ErrNone)
	return 0
}
