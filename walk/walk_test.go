package walk_test

import (
	"runtime/debug"
	"slices"
	"strings"
	"testing"

	"muslin/api"
	"muslin/walk"
)

func in(name string, kids ...api.Node) api.Node { return api.Node{Name: name, Kids: kids} }

// told are the begins and ends that are told, where nothing in a node named shut is gone through.
func told(l []api.Node) string {
	var row []string
	walk.Nodes(l, func(node api.Node) []api.Node {
		row = append(row, "+"+node.Name+node.Text)
		if node.Name == "shut" {
			return nil
		}
		return node.Kids
	}, func(node api.Node) { row = append(row, "-"+node.Name+node.Text) })
	return strings.Join(row, " ")
}

func TestNodes(t *testing.T) {
	x := api.Node{Text: "x"}
	for want, l := range map[string][]api.Node{
		"":                                    nil,
		"+x -x":                               {x},
		"+a -a +b -b +a -a":                   {in("a"), in("b"), in("a")},
		"+a +x -x +b +c -c -b +x -x -a +d -d": {in("a", x, in("b", in("c")), x), in("d")},
		"+a +shut -shut +b +x -x -b -a":       {in("a", in("shut", x, in("a")), in("b", x))},
		"+t +a -a -t":                         {{Text: "t", Kids: []api.Node{in("a")}}},
		"+shut -shut +shut -shut +a +x -x -a": {in("shut", x), in("shut"), in("a", x)},
		"+a +b +c +d -d -c -b -a +a +b +x -x -b -a": {in("a", in("b", in("c", in("d")))), in("a", in("b", x))},
	} {
		if s := told(l); s != want {
			t.Errorf("%q, not %q", s, want)
		}
		var begins []string
		walk.Begins(l, func(node api.Node) []api.Node {
			begins = append(begins, "+"+node.Name+node.Text)
			if node.Name == "shut" {
				return nil
			}
			return node.Kids
		})
		alone := slices.DeleteFunc(strings.Fields(want), func(one string) bool { return one[0] == '-' })
		if !slices.Equal(begins, alone) {
			t.Errorf("Begins: %q, not %q", begins, alone)
		}
	}
}

func TestVeryDeepOnes(t *testing.T) { // R1
	const levels = 100000
	// With so little room for calls, one for each level would end the program.
	defer debug.SetMaxStack(debug.SetMaxStack(1 << 21))
	var l []api.Node
	for range levels {
		l = []api.Node{in("a", l...), in("b")}
	}
	begins, ends := 0, 0
	walk.Nodes(l, func(node api.Node) []api.Node { begins++; return node.Kids }, func(api.Node) { ends++ })
	if begins != 2*levels || ends != begins {
		t.Errorf("%d begins, %d ends", begins, ends)
	}
}
