package field

import (
	"go/ast"
	"go/parser"
	"go/token"
	"testing"
)

// Every call does as much whatever the number (chapter 2, 'Ways'). A clock is
// no judge of that; but code without a branch, and without a look-up by a
// number, cannot do otherwise.
func TestNoBranchHangsOnANumber(t *testing.T) {
	set := token.NewFileSet()
	file, err := parser.ParseFile(set, "field.go", nil, 0)
	if err != nil {
		t.Fatal(err)
	}
	ast.Inspect(file, func(n ast.Node) bool {
		if n != nil && mayBranch(n) {
			t.Errorf("%v: what is done here may hang on a number", set.Position(n.Pos()))
		}
		return true
	})
}

func mayBranch(n ast.Node) bool {
	switch n := n.(type) {
	case *ast.IfStmt, *ast.SwitchStmt, *ast.TypeSwitchStmt, *ast.SelectStmt, *ast.ForStmt, *ast.BranchStmt, *ast.IndexExpr:
		return true
	case *ast.RangeStmt:
		// The one count that is gone through is handed in as a constant.
		count, ok := n.X.(*ast.Ident)
		return !ok || count.Name != "times"
	case *ast.CallExpr:
		// Only the counts of Invert go to squared, never a limb.
		name, ok := n.Fun.(*ast.Ident)
		if !ok || name.Name != "squared" {
			return false
		}
		_, constant := n.Args[1].(*ast.BasicLit)
		return !constant
	case *ast.BinaryExpr:
		return n.Op == token.LAND || n.Op == token.LOR || n.Op == token.QUO || n.Op == token.REM
	}
	return false
}
