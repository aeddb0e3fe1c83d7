package store_test

import (
	"go/ast"
	"go/parser"
	"go/token"
	"path/filepath"
	"strings"
	"testing"

	"broodhouse/api"
	"broodhouse/store"
)

// A statement that calls a method which may change a variable, and reads that
// variable outside the call too, may read it ahead of the call or behind it:
// Go leaves that open, and a compiler settles it. No answer shows the other
// choice, so these tests read the program's text.

// changers are the names of all methods that may change what they stand on.
func changers(files []*ast.File) map[string]bool {
	out := map[string]bool{}
	for _, file := range files {
		for _, d := range file.Decls {
			f, ok := d.(*ast.FuncDecl)
			if !ok || f.Recv == nil {
				continue
			}
			if _, pointer := f.Recv.List[0].Type.(*ast.StarExpr); pointer {
				out[f.Name.Name] = true
			}
		}
	}
	return out
}

// look gathers what one statement calls and uses.
type look struct {
	changers map[string]bool
	calls    []*ast.CallExpr // of changers, each of a variable
	uses     []*ast.Ident    // of variables, but where a changer is called of them
}

// changed is the variable of which call calls a changer; nil, if it does not.
func (l *look) changed(call *ast.CallExpr) *ast.Ident {
	method, ok := call.Fun.(*ast.SelectorExpr)
	if !ok || !l.changers[method.Sel.Name] {
		return nil
	}
	variable, _ := method.X.(*ast.Ident)
	return variable
}

// walk gathers from node, but not from the function literals in it: what
// stands in those is no part of the statement.
func (l *look) walk(node ast.Node) {
	ast.Inspect(node, func(n ast.Node) bool {
		switch x := n.(type) {
		case *ast.FuncLit:
			return false
		case *ast.SelectorExpr:
			l.walk(x.X)
			return false
		case *ast.KeyValueExpr:
			l.walk(x.Value)
			return false
		case *ast.AssignStmt:
			l.walkAssignment(x)
			return false
		case *ast.CallExpr:
			if l.changed(x) == nil {
				return true
			}
			l.calls = append(l.calls, x)
			for _, argument := range x.Args {
				l.walk(argument)
			}
			return false
		case *ast.Ident:
			l.uses = append(l.uses, x)
		}
		return true
	})
}

// walkAssignment leaves out what is only written: a variable, or its field.
func (l *look) walkAssignment(x *ast.AssignStmt) {
	for _, left := range x.Lhs {
		written := left
		if field, ok := left.(*ast.SelectorExpr); ok {
			written = field.X
		}
		_, plainly := written.(*ast.Ident)
		if !plainly || x.Tok != token.ASSIGN && x.Tok != token.DEFINE {
			l.walk(left)
		}
	}
	for _, right := range x.Rhs {
		l.walk(right)
	}
}

// open tells whether a variable is used beside a call that may change it. What
// is handed to that call is read ahead of it, and is no matter.
func (l *look) open() bool {
	for _, call := range l.calls {
		for _, use := range l.uses {
			within := call.Pos() <= use.Pos() && use.Pos() < call.End()
			if use.Name == l.changed(call).Name && !within {
				return true
			}
		}
	}
	return false
}

// evaluated are the pieces of n, if it is a statement, that Go works out in
// one go; what stands in its blocks are statements of their own.
func evaluated(n ast.Node) []ast.Node {
	switch x := n.(type) {
	case *ast.AssignStmt, *ast.ExprStmt, *ast.ReturnStmt, *ast.IncDecStmt, *ast.SendStmt,
		*ast.DeferStmt, *ast.GoStmt, *ast.ValueSpec:
		return []ast.Node{x}
	case *ast.IfStmt:
		return []ast.Node{x.Cond}
	case *ast.ForStmt:
		if x.Cond != nil {
			return []ast.Node{x.Cond}
		}
	case *ast.RangeStmt:
		return []ast.Node{x.X}
	case *ast.SwitchStmt:
		if x.Tag != nil {
			return []ast.Node{x.Tag}
		}
	case *ast.CaseClause:
		var out []ast.Node
		for _, e := range x.List {
			out = append(out, e)
		}
		return out
	}
	return nil
}

// openPlaces are the places in a package's files where an order is left open.
func openPlaces(fset *token.FileSet, files []*ast.File) []string {
	var out []string
	names := changers(files)
	for _, file := range files {
		ast.Inspect(file, func(n ast.Node) bool {
			for _, piece := range evaluated(n) {
				l := look{changers: names}
				l.walk(piece)
				if l.open() {
					out = append(out, fset.Position(piece.Pos()).String())
				}
			}
			return true
		})
	}
	return out
}

// TestNoAnswerHangsOnAnOrderThatGoLeavesOpen reads all packages: what is told
// of a store goes through run and house too.
func TestNoAnswerHangsOnAnOrderThatGoLeavesOpen(t *testing.T) {
	paths, err := filepath.Glob("../*/*.go")
	if err != nil || len(paths) == 0 {
		t.Fatalf("no files: %v", err)
	}
	fset := token.NewFileSet()
	packages := map[string][]*ast.File{}
	for _, path := range paths {
		if strings.HasSuffix(path, "_test.go") {
			continue
		}
		file, err := parser.ParseFile(fset, path, nil, 0)
		if err != nil {
			t.Fatal(err)
		}
		packages[filepath.Dir(path)] = append(packages[filepath.Dir(path)], file)
	}
	for _, name := range []string{"../store", "../house"} {
		if len(changers(packages[name])) == 0 {
			t.Errorf("%s: no methods are seen", name)
		}
	}
	for _, files := range packages {
		for _, place := range openPlaces(fset, files) {
			t.Errorf("%s: reads what a call of the same statement may change", place)
		}
	}
}

// TestOpenPlacesAreSeen holds the look itself against statements of both sorts.
func TestOpenPlacesAreSeen(t *testing.T) {
	for text, want := range map[string]int{
		"x := &b.l[b.lay(0)]; _ = x":                    1,
		"b.l[b.lay(0)] = 1":                             1,
		"b.l = append(b.l, b.lay(0))":                   1,
		"b.n += b.lay(0)":                               1,
		"_, _ = b.n, b.lay(0)":                          1,
		"_ = []int{b.lay(0), b.n}":                      1,
		"_ = box{n: b.lay(0), l: b.l}":                  1,
		"b.lay(b.n + b.lay(0))":                         1,
		"if b.n < b.lay(0) { return }":                  1,
		"for b.n < b.lay(0) { return }":                 1,
		"for range b.l[b.lay(0):] { return }":           1,
		"switch b.n + b.lay(0) { }":                     1,
		"switch { case b.n < b.lay(0): return }":        1,
		"if x := b.l[b.lay(0)]; x > 0 { return }":       1,
		"_ = func() int { return b.l[b.lay(0)] }":       1,
		"at := b.lay(0); x := &b.l[at]; _ = x":          0,
		"at := b.lay(0); b.l[at] = b.n":                 0,
		"b.n = b.lay(0)":                                0,
		"b.lay(b.n)":                                    0,
		"_, _ = b.lay(0), b.lay(1)":                     0,
		"b.l = append(b.l, b.n)":                        0,
		"_ = func() int { return b.n }; b.lay(0)":       0,
		"if b.n > 0 { b.lay(0) }":                       0,
		"c := box{}; _, _ = c.n, b.lay(0)":              0,
		"c := box{n: b.lay(0)}; _ = struct{ b int }{2}": 0,
	} {
		fset := token.NewFileSet()
		whole := "package p; type box struct { l []int; n int }; func (b *box) lay(n int) int { return n }; func (b *box) try() { " + text + " }"
		file, err := parser.ParseFile(fset, "p.go", whole, 0)
		if err != nil {
			t.Fatalf("%s: %v", text, err)
		}
		if got := openPlaces(fset, []*ast.File{file}); len(got) != want {
			t.Errorf("%s: %d places are seen, not %d", text, len(got), want)
		}
	}
}

// TestTheFirstBeingLaysItsTable: into no tables, ahead of all, between two and
// behind all, each being stands in the table that is laid for it.
func TestTheFirstBeingLaysItsTable(t *testing.T) {
	var w api.World
	for index, has := range []int{4, 1, 2, 128, 0, 2} {
		w.Rows = append(w.Rows, row(index, 1, has))
		w.Gens = append(w.Gens, 1)
		s, fault := store.Of(w)
		if fault != (api.Fault{}) || told(s) != told(tablesOf(w)) {
			t.Fatalf("%d beings: %v %v, not %v", len(w.Rows), s, fault, tablesOf(w))
		}
	}
	one, fault := store.Of(api.World{Rows: []api.Row{row(0, 1, 1)}, Gens: []int{1}})
	want := keep([]int{1}, table(1, beings(being(0, 1)), []int{0}))
	if fault != (api.Fault{}) || told(one) != told(want) {
		t.Errorf("%v %v, not %v", one, fault, want)
	}
}
