package expr

import (
	"indenture/api"
	"indenture/konst"
	"indenture/tset"
)

// assign is an operand as a value of a type, or why it can't be one.
func (k *looker) assign(x api.Oper, t int) (api.Oper, api.Errno) {
	if !isValue(x) && x.Mode != api.MNil {
		return api.Oper{}, api.ErrType
	}
	f, e := k.form(t)
	if e != api.OK {
		return api.Oper{}, e
	}
	if x.Mode == api.MNil {
		switch k.kind(f) {
		case api.KPtr, api.KSlice, api.KMap, api.KFunc, api.KIface:
			return x, api.OK
		}
		return api.Oper{}, api.ErrType
	}
	if untyped(x.Type) {
		return assignUntyped(x, t, f)
	}
	return k.assignTyped(x, t, f)
}

// defaultOf is the type of an untyped operand where no other is asked for.
func defaultOf(t int) int {
	switch t {
	case api.UBool:
		return api.YBool
	case api.UString:
		return api.YString
	case api.UInt:
		return api.YInt
	case api.URune:
		return api.YInt32
	}
	return api.YFloat64
}

func assignUntyped(x api.Oper, t, form int) (api.Oper, api.Errno) {
	if form == api.YAny {
		if isConst(x) {
			if _, e := konst.Fits(x.Val, defaultOf(x.Type)); e != api.OK {
				return api.Oper{}, e
			}
		}
		return value(t), api.OK
	}
	if sortOf(form) == other || untyped(form) {
		return api.Oper{}, api.ErrType
	}
	if isConst(x) {
		v, e := konst.Fits(x.Val, form)
		if e != api.OK {
			return api.Oper{}, e
		}
		return constant(t, v), api.OK
	}
	if x.Type == api.UBool && form == api.YBool {
		return value(t), api.OK
	}
	return api.Oper{}, api.ErrType
}

func (k *looker) assignTyped(x api.Oper, t, form int) (api.Oper, api.Errno) {
	if x.Type == t {
		return x, api.OK
	}
	own, e := k.form(x.Type)
	if e != api.OK {
		return api.Oper{}, e
	}
	bare := func(i int) bool { return k.kind(i) != api.KNamed && k.kind(i) != api.KBasic }
	if own == form && (bare(x.Type) || bare(t)) && k.kind(x.Type) != api.KParam && k.kind(t) != api.KParam {
		return value(t), api.OK
	}
	if f := k.w.Unit.Types[form]; f.Kind == api.KIface && f.N == 0 {
		ok, e := tset.Has(k.w.Unit, k.v.Ctx.Bounds, x.Type, form)
		if e != api.OK {
			return api.Oper{}, e
		}
		if ok {
			return value(t), api.OK
		}
	}
	return api.Oper{}, api.ErrType
}

// convert is an operand as a call of a type makes it; what is wrong is told at the call.
func (k *looker) convert(i int, x api.Oper, t int) api.Oper {
	f := k.mustForm(i, t)
	if isConst(x) {
		own := k.mustForm(i, x.Type)
		if isNumber(own) && isNumber(f) || sortOf(own) == sortOf(f) && sortOf(own) != other {
			v, e := konst.Fits(x.Val, f)
			k.must(i, e)
			return constant(t, v)
		}
	}
	_, e := k.assign(x, t)
	switch {
	case e == api.OK:
		return value(t)
	case e != api.ErrType || !isValue(x):
		k.fail(i, e)
	}
	if !k.convertible(i, k.mustForm(i, x.Type), f) {
		k.fail(i, api.ErrType)
	}
	return value(t)
}

// convertible tells whether a value of a form may be converted to another one, though it isn't assigned.
func (k *looker) convertible(i, own, f int) bool {
	if own == f && k.kind(f) != api.KParam || isNumber(own) && isNumber(f) {
		return true
	}
	if k.kind(own) != api.KPtr || k.kind(f) != api.KPtr {
		return false
	}
	to := k.mustForm(i, k.w.Unit.Types[own].Kids[0])
	return to == k.mustForm(i, k.w.Unit.Types[f].Kids[0])
}

// match are two operands as those of one type.
func (k *looker) match(i int, x, y api.Oper) (api.Oper, api.Oper, int) {
	isNil := func(o api.Oper) bool { return o.Mode == api.MNil }
	if !isValue(x) && !isNil(x) || !isValue(y) && !isNil(y) || isNil(x) && isNil(y) {
		k.fail(i, api.ErrType)
	}
	var e api.Errno
	switch {
	case untyped(x.Type) && untyped(y.Type):
		if isNumber(x.Type) && isNumber(y.Type) {
			x.Type, y.Type = max(x.Type, y.Type), max(x.Type, y.Type)
		}
	case untyped(x.Type):
		t := y.Type
		if x, e = k.assign(x, t); isNil(x) {
			x.Type = t
		}
	case untyped(y.Type):
		t := x.Type
		if y, e = k.assign(y, t); isNil(y) {
			y.Type = t
		}
	}
	k.must(i, e)
	if x.Type != y.Type {
		k.fail(i, api.ErrType)
	}
	return x, y, x.Type
}
