package write

import "indenture/api"

func (w *writer) sel(n api.Node) {
	w.node(n.Kids[0])
	// Behind a number the point would be one of its own.
	if k := w.nodes[n.Kids[0]].Kind; k == api.NInt || k == api.NFloat {
		w.put(" ")
	}
	w.put(".", n.Text)
}

func (w *writer) call(n api.Node) {
	w.node(n.Kids[0])
	w.put("(")
	w.list(n.Kids[1:], ", ")
	w.put(")")
}

func (w *writer) index(n api.Node) {
	w.node(n.Kids[0])
	w.put("[")
	w.list(n.Kids[1:], ", ")
	w.put("]")
}

// marked is a text, and right behind it a kid.
func (w *writer) marked(n api.Node) {
	w.put(n.Text)
	w.node(n.Kids[0])
}

func (w *writer) binary(n api.Node) {
	w.node(n.Kids[0])
	w.put(" ", n.Text, " ")
	w.node(n.Kids[1])
}

func (w *writer) paren(n api.Node) {
	w.put("(")
	w.node(n.Kids[0])
	w.put(")")
}

func (w *writer) slice(n api.Node) {
	w.put("[]")
	w.node(n.Kids[0])
}

func (w *writer) array(n api.Node) {
	w.put("[")
	w.node(n.Kids[0])
	w.put("]")
	w.node(n.Kids[1])
}

func (w *writer) mapped(n api.Node) {
	w.put("map")
	w.array(n)
}

func (w *writer) function(n api.Node) {
	w.put("func")
	w.params(n)
}

// signature is a function without its `func`.
func (w *writer) signature(i int) {
	if n := w.nodes[i]; n.Kind == api.NFunc {
		w.params(n)
		return
	}
	w.node(i)
}

// params are an NFunc's params and result.
func (w *writer) params(n api.Node) {
	last := len(n.Kids) - 1
	w.put("(")
	w.list(n.Kids[:last], ", ")
	w.put(")")
	if !w.left(n.Kids[last]) {
		w.put(" ")
		w.node(n.Kids[last])
	}
}

func (w *writer) structure(n api.Node) {
	w.put("struct")
	w.block(n.Kids)
}

func (w *writer) iface(n api.Node) {
	w.put("interface")
	w.block(n.Kids)
}

func (w *writer) block(kids []int) {
	if len(kids) == 0 {
		w.put("{}")
		return
	}
	w.put(" { ")
	w.list(kids, "; ")
	w.put(" }")
}

// called is a name, if there is one, and what it is of.
func (w *writer) called(n api.Node) {
	if n.Text != "" {
		w.put(n.Text, " ")
	}
	w.node(n.Kids[0])
}

func (w *writer) method(n api.Node) {
	w.put(n.Text)
	w.signature(n.Kids[0])
}

func (w *writer) union(n api.Node) { w.list(n.Kids, " | ") }

func (w *writer) constant(n api.Node) {
	w.put("const ")
	w.valued(n)
}

func (w *writer) variable(n api.Node) {
	w.put("var ")
	w.valued(n)
}

// valued is what a constant's and a variable's declarations have both.
func (w *writer) valued(n api.Node) {
	w.put(n.Text)
	if !w.left(n.Kids[0]) {
		w.put(" ")
		w.node(n.Kids[0])
	}
	if !w.left(n.Kids[1]) {
		w.put(" = ")
		w.node(n.Kids[1])
	}
}

func (w *writer) types(n api.Node) {
	if len(n.Kids) > 0 {
		w.put("[")
		w.list(n.Kids, ", ")
		w.put("]")
	}
}

func (w *writer) typeDecl(n api.Node) {
	w.put("type ", n.Text)
	w.node(n.Kids[0])
	w.put(" ")
	w.node(n.Kids[1])
}

func (w *writer) funcDecl(n api.Node) {
	w.put("func ")
	if !w.left(n.Kids[0]) {
		w.put("(")
		w.node(n.Kids[0])
		w.put(") ")
	}
	w.put(n.Text)
	w.node(n.Kids[1])
	w.signature(n.Kids[2])
	w.put(" ")
	w.node(n.Kids[3])
}

func (w *writer) body(n api.Node) {
	if w.left(n.Kids[0]) {
		w.put("{}")
		return
	}
	w.put("{ return ")
	w.node(n.Kids[0])
	w.put(" }")
}

func (w *writer) file(n api.Node) {
	w.put("package ", n.Text, "\n")
	for _, k := range n.Kids {
		w.node(k)
		w.put("\n")
	}
}
