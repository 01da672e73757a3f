package expr

import (
	"indenture/api"
	"indenture/konst"
	"indenture/nat"
	"indenture/subst"
	"indenture/tset"
)

func (k *looker) index(i int) api.Oper {
	kids := k.node(i).Kids
	first := kids[0]
	for k.node(first).Kind == api.NParen {
		first = k.node(first).Kids[0]
	}
	if d := k.told(first); d >= 0 && k.w.Prog.Decls[d].Kind == api.DType {
		return k.typ(i)
	}
	x := k.look(kids[0])
	if x.Mode == api.MGen {
		return k.instance(i, x)
	}
	if len(kids) != 2 {
		k.fail(i, api.ErrType)
	}
	y := k.look(kids[1])
	if !isValue(x) {
		k.fail(i, api.ErrType)
	}
	return k.element(i, x, y)
}

// instance is a function of type params, of types instead of them.
func (k *looker) instance(i int, x api.Oper) api.Oper {
	var args []int
	for _, kid := range k.node(i).Kids[1:] {
		args = append(args, k.typeOf(kid))
	}
	if len(args) != len(x.Bounds) {
		k.fail(i, api.ErrType)
	}
	for n, b := range x.Bounds {
		at := k.filled(i, b, args)
		ok, e := tset.Has(k.w.Unit, k.v.Ctx.Bounds, args[n], at)
		k.must(i, e)
		if !ok {
			k.fail(i, api.ErrType)
		}
	}
	return value(k.filled(i, x.Type, args))
}

// filled is a type with others instead of its params.
func (k *looker) filled(i, t int, args []int) int {
	l, at, e := subst.Subst(k.w.Unit.Types, t, args)
	k.must(i, e)
	k.w.Unit.Types = l
	return at
}

// element is what an index of y makes of the value x.
func (k *looker) element(i int, x, y api.Oper) api.Oper {
	form := k.mustForm(i, x.Type)
	t := k.w.Unit.Types[form]
	switch {
	case sortOf(form) == text:
		size := -1
		if isConst(x) {
			size = len(x.Val.S)
		}
		k.number(i, y, size)
		return value(api.YUint8)
	case t.Kind == api.KArray:
		k.number(i, y, t.N)
		if x.Mode == api.MVar {
			return variable(t.Kids[0])
		}
		return value(t.Kids[0])
	case t.Kind == api.KSlice:
		k.number(i, y, -1)
		return variable(t.Kids[0])
	case t.Kind == api.KMap:
		_, e := k.assign(y, t.Kids[0])
		k.must(i, e)
		return value(t.Kids[1])
	}
	k.fail(i, api.ErrType)
	return api.Oper{}
}

// number tells what is wrong with an index; size is how many elements there are, or -1, if none tells.
func (k *looker) number(i int, y api.Oper, size int) {
	if isConst(y) {
		v, e := konst.Fits(y.Val, api.YInt)
		k.must(i, e)
		if v.R.Neg {
			k.fail(i, api.ErrOver)
		}
		if size >= 0 {
			if c, _ := nat.Cmp(v.R.Num, nat.Of(uint64(size))); c >= 0 {
				k.fail(i, api.ErrOver)
			}
		}
		return
	}
	if isValue(y) {
		if form := k.mustForm(i, y.Type); form >= api.YInt && form <= api.YUint64 {
			return
		}
	}
	k.fail(i, api.ErrType)
}

func (k *looker) call(i int) api.Oper {
	kids := k.node(i).Kids
	f, args := k.look(kids[0]), kids[1:]
	if f.Mode == api.MType {
		if len(args) != 1 {
			k.fail(i, api.ErrType)
		}
		return k.convert(i, k.look(args[0]), f.Type)
	}
	if !isValue(f) {
		k.fail(i, api.ErrType)
	}
	t := k.w.Unit.Types[k.mustForm(i, f.Type)]
	if t.Kind != api.KFunc || len(args) != len(t.Kids)-t.N {
		k.fail(i, api.ErrType)
	}
	for n, a := range args {
		_, e := k.assign(k.look(a), t.Kids[n])
		k.must(a, e)
	}
	if t.N == 0 {
		return api.Oper{Mode: api.MNone}
	}
	return value(t.Kids[len(args)])
}

func (k *looker) unary(i int) api.Oper {
	n := k.node(i)
	x := k.look(n.Kids[0])
	if n.Text == "*" && x.Mode == api.MType {
		return k.typ(i)
	}
	if !isValue(x) {
		k.fail(i, api.ErrType)
	}
	form := k.mustForm(i, x.Type)
	ok := false
	switch n.Text {
	case "*":
		if t := k.w.Unit.Types[form]; t.Kind == api.KPtr {
			return variable(t.Kids[0])
		}
	case "!":
		ok = sortOf(form) == truth
	case "+", "-":
		ok = isNumber(form)
	case "^":
		ok = sortOf(form) == whole
	}
	if !ok {
		k.fail(i, api.ErrType)
	}
	if !isConst(x) {
		return value(x.Type)
	}
	v, e := konst.Unary(n.Text, x.Val, form)
	k.must(i, e)
	return constant(x.Type, v)
}

func (k *looker) binary(i int) api.Oper {
	n := k.node(i)
	x := k.look(n.Kids[0])
	y := k.look(n.Kids[1])
	switch n.Text {
	case "<<", ">>":
		return k.shift(i, x, y)
	case "==", "!=", "<", "<=", ">", ">=":
		return k.compare(i, x, y)
	}
	x, y, t := k.match(i, x, y)
	form := k.mustForm(i, t)
	if !suits(n.Text, form) {
		k.fail(i, api.ErrType)
	}
	if isConst(x) && isConst(y) {
		v, e := konst.Binary(n.Text, x.Val, y.Val, form)
		k.must(i, e)
		return constant(t, v)
	}
	divides := n.Text == "/" || n.Text == "%"
	if divides && sortOf(form) == whole && isConst(y) && len(y.Val.R.Num) == 0 {
		k.fail(i, api.ErrZero)
	}
	return value(t)
}

// suits tells whether an operator is one of a form.
func suits(op string, form int) bool {
	switch op {
	case "&&", "||":
		return sortOf(form) == truth
	case "+":
		return isNumber(form) || sortOf(form) == text
	case "-", "*", "/":
		return isNumber(form)
	}
	return sortOf(form) == whole
}

func (k *looker) compare(i int, x, y api.Oper) api.Oper {
	op := k.node(i).Text
	x, y, t := k.match(i, x, y)
	if op == "==" || op == "!=" {
		if x.Mode != api.MNil && y.Mode != api.MNil {
			ok, e := tset.Comparable(k.w.Unit, k.v.Ctx.Bounds, t)
			k.must(i, e)
			if !ok {
				k.fail(i, api.ErrType)
			}
		}
	} else if form := k.mustForm(i, t); !isNumber(form) && sortOf(form) != text {
		k.fail(i, api.ErrType)
	}
	if !isConst(x) || !isConst(y) {
		return value(api.UBool)
	}
	b, e := konst.Compare(op, x.Val, y.Val)
	k.must(i, e)
	return constant(api.UBool, api.Val{Kind: api.VBool, B: b})
}

func (k *looker) shift(i int, x, y api.Oper) api.Oper {
	if !isValue(x) || !isValue(y) {
		k.fail(i, api.ErrType)
	}
	if isConst(y) {
		v, e := konst.Fits(y.Val, api.UInt)
		k.must(i, e)
		y.Val = v
	} else if sortOf(k.mustForm(i, y.Type)) != whole {
		k.fail(i, api.ErrType)
	}
	if isConst(x) && isConst(y) {
		return k.shifted(i, x, y.Val)
	}
	if untyped(x.Type) || sortOf(k.mustForm(i, x.Type)) != whole {
		k.fail(i, api.ErrType)
	}
	if isConst(y) && y.Val.R.Neg {
		k.fail(i, api.ErrOver)
	}
	return value(x.Type)
}

// shifted is the constant that a shift of a constant is.
func (k *looker) shifted(i int, x api.Oper, by api.Val) api.Oper {
	if untyped(x.Type) {
		v, e := konst.Fits(x.Val, api.UInt)
		k.must(i, e)
		x = constant(api.UInt, v)
	}
	form := k.mustForm(i, x.Type)
	if sortOf(form) == other {
		k.fail(i, api.ErrType)
	}
	v, e := konst.Shift(k.node(i).Text, x.Val, by, form)
	k.must(i, e)
	return constant(x.Type, v)
}
