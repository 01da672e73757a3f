package report

import (
	"math/rand"
	"slices"
	"strings"
	"testing"

	"indenture/api"
	"indenture/check"
	"indenture/semver"
)

const shop = `import "q"
type Shop struct { Items []item; names map[string]q.Name; *base }
type item struct { Price int; next *item }
type base struct { Open bool }
func (s *Shop) Sell(n int) item { return s.Items[n] }
func (b base) IsOpen() bool { return b.Open }
type Number interface { ~int | ~float64 }
func Sum[N Number](a N, l []N) N { return l[0] }
const Most int8 = 1 << 3
var Main Shop
var Total = Sum[int](Most2, nil) + Main.Items[0].Price
const Most2 = Most3 * 2
const Most3 = 7
`

const names = `type Name string
func (n Name) Len() int { return 3 }
`

func shops(text string) []api.Source {
	return []api.Source{{Path: "p", Files: []string{"package p\n" + text}}, {Path: "q", Files: []string{"package q\n" + names}}}
}

// TestP2: whatever the bytes, sources are checked, or what is wrong is told, with its place.
func TestP2(t *testing.T) {
	r := rand.New(rand.NewSource(1))
	well := 0
	for range 4000 {
		b := []byte(shop)
		for range 1 + r.Intn(3) {
			i := r.Intn(len(b))
			switch r.Intn(3) {
			case 0:
				b[i] = byte(r.Intn(256))
			case 1:
				b[i] = b[r.Intn(len(b))]
			case 2:
				b = slices.Delete(b, i, min(i+1+r.Intn(5), len(b)))
			}
		}
		l := shops(string(b))
		w, bad := check.All(l)
		if len(bad) == 0 {
			well++
			if !check.Whole(w) {
				t.Fatalf("%q", b)
			}
		}
		for _, x := range bad {
			if x.Pkg != "p" && x.Pkg != "q" || x.File != 0 || x.At < 0 || x.At > len(l[0].Files[0]) || x.Why == api.OK || x.Why == api.ErrArg {
				t.Fatalf("%q: %v", b, x)
			}
		}
	}
	if well < 50 {
		t.Error("too few are well", well)
	}
}

// TestP5: layout, files' order and the names of types that are not shown change nothing; new items are fine.
func TestP5(t *testing.T) {
	old := shops(shop)
	judge := func(fresh []api.Source) api.Report {
		t.Helper()
		r, e := Run(api.Script{Base: "1.2.3", Old: old, New: fresh})
		if e != api.OK || r.Which != 0 {
			t.Fatal(r, e)
		}
		return r
	}
	lines := strings.SplitAfter(strings.TrimPrefix(shop, "import \"q\"\n"), "\n")
	files := func(turn int) []api.Source {
		l := append(slices.Clone(lines[turn:]), lines[:turn]...)
		a, b := strings.Join(l[:4], "// c\n\n"), strings.Join(l[4:], "\n/* d\n*/ ")
		s := shops("")
		head := "package p; import `q`\n"
		s[0].Files = []string{head + a, head + b}
		if turn%2 == 0 {
			slices.Reverse(s)
			slices.Reverse(s[1].Files)
		}
		return s
	}
	for turn := range lines {
		if r := judge(files(turn)); len(r.Findings) != 0 || r.Class != 0 || r.Next != "1.2.4" {
			t.Error(turn, Text(r))
		}
	}
	renamed := shops(strings.NewReplacer("item", "thing", "item{", "thing{").Replace(shop))
	if r := judge(renamed); len(r.Findings) != 0 || r.Next != "1.2.4" {
		t.Error(Text(r))
	}
	for _, more := range []string{"var Zz = Total", "type Zz item", "func Zz() {}", "const Zz = 1"} {
		if r := judge(shops(shop + more + "\n")); len(r.Findings) != 1 || r.Class != api.FineClass || r.Next != "1.3.0" {
			t.Error(more, Text(r))
		}
	}
}

// TestP4: what is told to break comes with a client that is well with the old version, and not with the new one; and the next version is one that is greater.
func TestP4(t *testing.T) {
	r := rand.New(rand.NewSource(2))
	words := strings.Fields("int string bool item base Shop int8 Price Open Items 1 2 7 3 ~int * []")
	old := shops(shop)
	broken := 0
	for range 600 {
		text := shop
		for range 1 + r.Intn(2) {
			from := words[r.Intn(len(words))]
			text = strings.Replace(text, from, words[r.Intn(len(words))], 1+r.Intn(2))
		}
		fresh := shops(text)
		x, e := Run(api.Script{Base: "1.2.3-rc", Old: old, New: fresh})
		if e != api.OK {
			t.Fatal(text, e)
		}
		for _, f := range x.Findings {
			if f.Class != api.BreakClass {
				continue
			}
			broken++
			client := api.Source{Path: "client", Files: []string{f.Client}}
			_, well := check.All(append(slices.Clone(old), client))
			_, bad := check.All(append(slices.Clone(fresh), client))
			if len(well) != 0 || len(bad) == 0 {
				t.Fatal(text, f)
			}
		}
		if x.Which == 0 {
			base, _ := semver.Parse("1.2.3-rc")
			next, e := semver.Parse(x.Next)
			if c, _ := semver.Cmp(next, base); c != 1 || e != api.OK || len(next.Pre) != 0 {
				t.Fatal(x.Next)
			}
		}
	}
	if broken < 20 {
		t.Error("too few break", broken)
	}
}
