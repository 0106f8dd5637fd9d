// Package rules has the tests of the rules that hold for the code of all layers.
package rules

import (
	"go/ast"
	"go/parser"
	"go/token"
	"path/filepath"
	"slices"
	"strings"
	"testing"
)

// layers in their order: each calls only those ahead of it.
var layers = strings.Fields(`tape tag name role cred keys vault model check chain
	formula parse normal sets guard unlock msg frame seq gate
	eager graph thrift caps session net treaty outcome twin lone
	lint least audit revoke pact report story weigh trace strand
	merge ticket stuck drive sieve log census script market change
	tree`)

// library that layers may import.
var library = strings.Fields(`bytes cmp container/heap errors iter maps math math/bits slices
	sort strconv strings sync sync/atomic unicode unicode/utf8`)

// ways of the language that a layer leans on.
var ways = map[string][]string{
	"tape":  {"panic", "defer", "recover", "assertion"},
	"vault": {"range-function", "closure"},
	"model": {"map", "range-map", "struct-compared"},
	"parse": {"type-switch", "method-value"},
	"guard": {"promoted"},
}

// source files of a layer, tests aside.
func source(t *testing.T, layer string) map[string]*ast.File {
	t.Helper()
	paths, err := filepath.Glob(filepath.Join("..", layer, "*.go"))
	if err != nil {
		t.Fatal(err)
	}
	files := map[string]*ast.File{}
	for _, path := range paths {
		if strings.HasSuffix(path, "_test.go") {
			continue
		}
		files[path], err = parser.ParseFile(token.NewFileSet(), path, nil, parser.ParseComments)
		if err != nil {
			t.Fatal(err)
		}
	}
	if len(files) == 0 {
		t.Fatalf("layer %s has no files", layer)
	}
	return files
}

// A layer imports only what the language's rules let it, and of the layers only those below it.
func TestImports(t *testing.T) {
	for at, layer := range layers {
		for path, file := range source(t, layer) {
			for _, spec := range file.Imports {
				name := strings.Trim(spec.Path.Value, `"`)
				own, inside := strings.CutPrefix(name, "entente/")
				if !inside && !slices.Contains(library, name) {
					t.Errorf("%s imports %s", path, name)
				}
				if inside && slices.Index(layers, own) >= at {
					t.Errorf("%s imports %s, which isn't below it", path, name)
				}
			}
		}
	}
}

// No go: line and no build tag.
func TestNoDirectives(t *testing.T) {
	for _, layer := range layers {
		for path, file := range source(t, layer) {
			for _, group := range file.Comments {
				for _, c := range group.List {
					if strings.HasPrefix(c.Text, "//go:") || strings.HasPrefix(c.Text, "// +build") {
						t.Errorf("%s has %s", path, c.Text)
					}
				}
			}
		}
	}
}

// found ways of the language: those that a node is. The maps are the fields of the layer that are maps, the methods its methods.
func found(n ast.Node, maps, methods map[string]bool) []string {
	switch x := n.(type) {
	case *ast.FuncDecl:
		if asksInner(x) {
			return []string{"promoted"}
		}
	case *ast.DeferStmt:
		return []string{"defer"}
	case *ast.FuncLit:
		return []string{"closure"}
	case *ast.RangeStmt:
		if isIterator(x.X) {
			return []string{"range-function"}
		}
		if f, ok := x.X.(*ast.SelectorExpr); ok && maps[f.Sel.Name] {
			return []string{"range-map"}
		}
	case *ast.MapType:
		// A map holds its keys against each other, and those of package api are structs, but for its errors.
		if key, ok := x.Key.(*ast.SelectorExpr); ok && key.Sel.Name != "Errno" {
			return []string{"map", "struct-compared"}
		}
		return []string{"map"}
	case *ast.TypeSwitchStmt:
		return []string{"type-switch"}
	case *ast.TypeAssertExpr:
		if x.Type != nil {
			return []string{"assertion"}
		}
	case *ast.CallExpr:
		if f, ok := x.Fun.(*ast.Ident); ok && (f.Name == "panic" || f.Name == "recover") {
			return []string{f.Name}
		}
		if slices.ContainsFunc(x.Args, func(arg ast.Expr) bool { return isMethod(arg, methods) }) {
			return []string{"method-value"}
		}
	}
	return nil
}

// asksInner tells whether a function asks a parameter, a guarded credential, for what that has in its inner parts.
func asksInner(f *ast.FuncDecl) bool {
	guarded := map[string]bool{}
	for _, field := range f.Type.Params.List {
		if t, ok := field.Type.(*ast.SelectorExpr); ok && t.Sel.Name == "Guarded" {
			for _, name := range field.Names {
				guarded[name.Name] = true
			}
		}
	}
	asks := false
	ast.Inspect(f, func(n ast.Node) bool {
		if x, ok := n.(*ast.SelectorExpr); ok {
			of, ok := x.X.(*ast.Ident)
			own := x.Sel.Name == "Signed" || x.Sel.Name == "Release"
			asks = asks || ok && guarded[of.Name] && !own
		}
		return true
	})
	return asks
}

// isMethod tells whether an expression is a method that is handed on, not called.
func isMethod(x ast.Expr, methods map[string]bool) bool {
	f, ok := x.(*ast.SelectorExpr)
	return ok && methods[f.Sel.Name]
}

// methodNames of a layer.
func methodNames(files map[string]*ast.File) map[string]bool {
	names := map[string]bool{}
	for _, file := range files {
		for _, d := range file.Decls {
			if f, ok := d.(*ast.FuncDecl); ok && f.Recv != nil {
				names[f.Name.Name] = true
			}
		}
	}
	return names
}

// mapFields of a layer's structs: the names of those that are maps.
func mapFields(files map[string]*ast.File) map[string]bool {
	fields := map[string]bool{}
	for _, file := range files {
		ast.Inspect(file, func(n ast.Node) bool {
			f, ok := n.(*ast.Field)
			if !ok {
				return true
			}
			if _, ok := f.Type.(*ast.MapType); ok {
				for _, name := range f.Names {
					fields[name.Name] = true
				}
			}
			return true
		})
	}
	return fields
}

// isIterator tells whether an expression calls an All, which answers an iterator wherever there is one.
func isIterator(x ast.Expr) bool {
	call, ok := x.(*ast.CallExpr)
	if !ok {
		return false
	}
	f, ok := call.Fun.(*ast.SelectorExpr)
	return ok && f.Sel.Name == "All"
}

// Each layer leans on the ways that the document asks of it.
func TestWays(t *testing.T) {
	for layer, wanted := range ways {
		has := map[string]bool{}
		files := source(t, layer)
		maps, methods := mapFields(files), methodNames(files)
		for _, file := range files {
			ast.Inspect(file, func(n ast.Node) bool {
				for _, w := range found(n, maps, methods) {
					has[w] = true
				}
				return true
			})
		}
		for _, w := range wanted {
			if !has[w] {
				t.Errorf("layer %s has no %s", layer, w)
			}
		}
	}
}
