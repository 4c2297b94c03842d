package schema_test

import (
	"math"
	"slices"
	"strings"
	"testing"

	"memoir/api"
	"memoir/schema"
)

func column(name string, kind int, need bool) api.Column {
	return api.Column{Name: name, Kind: kind, Need: need}
}

// table is a right schema with a column of each kind, of which the first three are the key, and the fifth Needs.
func table() api.Schema {
	return api.Schema{Name: "t_1", Cols: []api.Column{
		column("a", api.Int, true), column("b", api.Text, true), column("c", api.Bool, true), column("d", api.Float, false), column("e", api.Bytes, true),
	}, Keys: 3}
}

// wide is a right schema with n columns that all Need, the first keys of them its key.
func wide(n, keys int) api.Schema {
	s := api.Schema{Name: "w", Keys: keys}
	for i := range n {
		s.Cols = append(s.Cols, column("c"+string(rune('a'+i)), api.Int, true))
	}
	return s
}

// single is a right schema of one column.
func single(name, col string) api.Schema {
	return api.Schema{Name: name, Cols: []api.Column{column(col, api.Text, true)}, Keys: 1}
}

// clone is a schema with columns of its own.
func clone(s api.Schema) api.Schema {
	s.Cols = slices.Clone(s.Cols)
	return s
}

func names() []string {
	return []string{"a", "z", "_", "t", "a1", "a_1", "_0", "__", "z9", "abcdefghijklmnopqrstuvwxyz_", "a0123456789", strings.Repeat("a", 32), "_" + strings.Repeat("9", 31)}
}

func noNames() []string {
	return []string{
		"", "1", "0a", "9", "1a", "A", "aB", "Z_", " ", "a b", " a", "a ", "a-b", "a.b", "a\x00", "\x00", "\x00a", "a\n", "\"a\"",
		"é", "aé", "a\u0661", "\u212a", "a\uff41", "a\u00aa", "\xff", "a\xff", "a\xc3", "a\u2080", "\ufffd", "a\U0001d7d8",
		strings.Repeat("a", 33), strings.Repeat("a", 256+5), strings.Repeat("_", 1<<16+1), strings.Repeat("\u0430", 16), strings.Repeat("\u0430", 32), strings.Repeat("a", 100000) + "A",
	}
}

func TestName(t *testing.T) { // P5.1
	for _, s := range names() {
		if !schema.Name(s) {
			t.Errorf("%q: no name", s)
		}
	}
	for _, s := range noNames() {
		if schema.Name(s) {
			t.Errorf("%.60q: a name", s)
		}
	}
}

// TestNameLetters puts each byte, and each of the first runes, at each place of a name.
func TestNameLetters(t *testing.T) { // P5.1
	const letters, digits = "abcdefghijklmnopqrstuvwxyz_", "0123456789"
	check := func(c string) {
		first := len(c) == 1 && strings.Contains(letters, c)
		further := first || len(c) == 1 && strings.Contains(digits, c)
		for _, rest := range []string{"", "a", "_9"} {
			if schema.Name(c+rest) != first || schema.Name("z"+c+rest) != further || schema.Name("_"+rest+c) != further {
				t.Errorf("%q at %q", c, rest)
			}
		}
	}
	for n := range 256 {
		check(string([]byte{byte(n)}))
	}
	for n := range 0x3000 {
		check(string(rune(n)))
	}
}

func TestNameLength(t *testing.T) { // P5.1
	for n := range 300 {
		for _, c := range []string{"a", "_"} {
			if schema.Name(strings.Repeat(c, n)) != (n >= 1 && n <= 32) {
				t.Errorf("%d of %s", n, c)
			}
		}
	}
}

func TestRight(t *testing.T) { // P5.1
	if !schema.Right(table()) {
		t.Error("not right")
	}
	for _, s := range names() {
		if !schema.Right(single(s, "x")) || !schema.Right(single("x", s)) || !schema.Right(single(s, s)) {
			t.Errorf("%q: not right", s)
		}
	}
	for _, s := range noNames() {
		if schema.Right(single(s, "x")) || schema.Right(single("x", s)) || schema.Right(single(s, s)) {
			t.Errorf("%.60q: right", s)
		}
	}
	if schema.Right(api.Schema{}) {
		t.Error("nothing: right")
	}
}

// TestRightSizes asks all numbers of columns and of Keys there are, and some there can't be.
func TestRightSizes(t *testing.T) { // P5.1
	for n := range 20 {
		for keys := -2; keys <= 20; keys++ {
			if got := schema.Right(wide(n, keys)); got != (n >= 1 && n <= 16 && keys >= 1 && keys <= 8 && keys <= n) {
				t.Errorf("%d columns, %d Keys: %v", n, keys, got)
			}
		}
		for _, keys := range []int{math.MinInt, math.MinInt + 1, math.MaxInt, 1 << 32, 1<<32 + 1, 256 + 1, 1<<16 + 1} {
			if schema.Right(wide(n, keys)) {
				t.Errorf("%d columns, %d Keys: right", n, keys)
			}
		}
	}
	many := wide(16, 1)
	many.Cols = slices.Repeat(many.Cols, 100000)
	if schema.Right(many) {
		t.Error("many columns: right")
	}
}

// TestRightColumns spoils each column of schemas with each number of Keys.
func TestRightColumns(t *testing.T) { // P5.1
	for keys := 1; keys <= 8; keys++ {
		for i := range 16 {
			s := wide(16, keys)
			s.Cols[i].Need = false
			if schema.Right(s) != (i >= keys) {
				t.Errorf("%d Keys, column %d does not Need", keys, i)
			}
			s.Cols[i].Need = true
			s.Cols[i].Name = "0"
			if schema.Right(s) {
				t.Errorf("%d Keys, column %d has no name: right", keys, i)
			}
			for j := range i {
				s.Cols[i].Name = s.Cols[j].Name
				if schema.Right(s) {
					t.Errorf("%d Keys, columns %d and %d have one name: right", keys, i, j)
				}
			}
			s.Cols[i].Name = s.Name
			if !schema.Right(s) {
				t.Errorf("%d Keys, column %d has the table's name: not right", keys, i)
			}
			checkKinds(t, s, i)
		}
	}
}

func checkKinds(t *testing.T, s api.Schema, i int) {
	t.Helper()
	for _, kind := range []int{math.MinInt, -1, 0, 1, 2, 3, 4, 5, 6, 7, 256 + 1, 1<<32 + 2, math.MaxInt} {
		s.Cols[i].Kind = kind
		if schema.Right(s) != (kind >= 1 && kind <= 5) {
			t.Errorf("column %d of kind %d", i, kind)
		}
	}
}

// changed is a schema in all the ways in which it can be another one by one thing.
func changed(s api.Schema) []api.Schema {
	var l []api.Schema
	add := func(change func(*api.Schema)) {
		other := clone(s)
		change(&other)
		l = append(l, other)
	}
	add(func(s *api.Schema) { s.Name += "x" })
	add(func(s *api.Schema) { s.Keys++ })
	add(func(s *api.Schema) { s.Keys-- })
	add(func(s *api.Schema) { s.Cols = append(s.Cols, column("more", api.Int, false)) })
	for i := range s.Cols {
		add(func(s *api.Schema) { s.Cols[i].Name += "x" })
		add(func(s *api.Schema) { s.Cols[i].Kind = s.Cols[i].Kind%5 + 1 })
		add(func(s *api.Schema) { s.Cols[i].Need = !s.Cols[i].Need })
		add(func(s *api.Schema) { s.Cols = slices.Delete(s.Cols, i, i+1) })
	}
	for i := range len(s.Cols) - 1 {
		add(func(s *api.Schema) { s.Cols[i], s.Cols[i+1] = s.Cols[i+1], s.Cols[i] })
	}
	return l
}

func TestSame(t *testing.T) { // P5.1
	for _, s := range []api.Schema{table(), wide(1, 1), wide(16, 8), {}, {Name: "A", Keys: -1}, {Cols: []api.Column{{Kind: 9}}}, wide(20, 3)} {
		if !schema.Same(s, clone(s)) {
			t.Errorf("%v: not the same as itself", s)
		}
		for _, other := range changed(s) {
			if schema.Same(s, other) || schema.Same(other, s) {
				t.Errorf("%v and %v: the same", s, other)
			}
		}
	}
	if a, b := (api.Schema{Name: "a"}), (api.Schema{Name: "a", Cols: []api.Column{}}); !schema.Same(a, b) || !schema.Same(b, a) {
		t.Error("an empty list is not the same as none")
	}
}

// extended is a schema with a column more.
func extended(s api.Schema, c api.Column) api.Schema {
	s.Cols = append(slices.Clone(s.Cols), c)
	return s
}

func TestExtends(t *testing.T) { // P5.4
	a := table()
	b := extended(a, column("x", api.Bool, false))
	c := extended(b, column("y", api.Text, false))
	up := []api.Schema{a, b, c}
	for i := range up {
		for j := range up {
			if schema.Extends(up[i], clone(up[j])) != (i <= j) {
				t.Errorf("%d columns, %d columns", len(up[i].Cols), len(up[j].Cols))
			}
		}
	}
	for _, other := range []api.Schema{
		extended(a, column("x", api.Bool, true)), extended(b, column("y", api.Text, true)), extended(extended(a, column("x", api.Bool, true)), column("y", api.Text, false)),
		extended(a, column("a", api.Bool, false)), extended(a, column("X", api.Bool, false)), extended(a, column("x", 0, false)),
	} {
		if schema.Extends(a, other) {
			t.Errorf("%v", other)
		}
	}
	for n := 1; n <= 18; n++ {
		long := wide(n, 1)
		for i := 1; i < n; i++ {
			long.Cols[i].Need = false
		}
		if schema.Extends(wide(1, 1), long) != (n <= 16) || schema.Extends(long, wide(1, 1)) != (n == 1) {
			t.Errorf("to %d columns", n)
		}
	}
}

// TestExtendsOthers holds schemas against those that are others by one thing, and with a column more.
func TestExtendsOthers(t *testing.T) { // P5.4
	s := table()
	for _, other := range changed(s) {
		more := extended(other, column("x", api.Bool, false))
		last := len(other.Cols) - 1
		isMore := schema.Same(s, api.Schema{Name: other.Name, Cols: other.Cols[:last], Keys: other.Keys})
		if schema.Extends(s, other) != isMore || schema.Extends(s, more) != isMore {
			t.Errorf("%v, %v", s, other)
		}
		isLess := len(other.Cols) < len(s.Cols) && schema.Same(other, api.Schema{Name: s.Name, Cols: s.Cols[:last+1], Keys: s.Keys}) && !s.Cols[last+1].Need
		if schema.Extends(other, s) != isLess {
			t.Errorf("%v, %v", other, s)
		}
	}
}

// wrong is schemas that are not right.
func wrong() []api.Schema {
	needless := table()
	needless.Cols[1].Need = false
	twice := table()
	twice.Cols[4].Name = "a"
	return []api.Schema{
		{}, {Name: "a", Keys: 0}, {Name: "a", Keys: 1}, {Cols: table().Cols, Keys: 1}, {Name: "1a", Cols: table().Cols, Keys: 1}, {Name: "a", Cols: table().Cols, Keys: 6},
		wide(0, 0), wide(0, 1), wide(1, 0), wide(1, 2), wide(1, -1), wide(9, 9), wide(17, 1), wide(100, 8), needless, twice,
		{Name: "a", Cols: []api.Column{column("x", 0, true)}, Keys: 1}, {Name: "a", Cols: []api.Column{column("x", 6, true)}, Keys: 1}, {Name: "a", Cols: []api.Column{column("x", -1, true)}, Keys: 1}, {Name: "a", Cols: []api.Column{column("", 1, true)}, Keys: 1},
	}
}

func TestExtendsWrong(t *testing.T) { // P5.4
	for _, s := range wrong() {
		for _, other := range []api.Schema{s, table(), wide(16, 8)} {
			if schema.Extends(s, other) || schema.Extends(other, s) {
				t.Errorf("%v, %v", s, other)
			}
		}
	}
}

// small is all right schemas of up to three columns of some kinds.
func small() []api.Schema {
	level := []api.Schema{{Name: "t"}}
	var all []api.Schema
	for _, name := range []string{"a", "b", "c"} {
		var next []api.Schema
		for _, s := range level {
			for _, kind := range []int{api.Bool, api.Text} {
				for _, need := range []bool{true, false} {
					next = append(next, extended(s, column(name, kind, need)))
				}
			}
		}
		level = next
		for _, s := range level {
			for s.Keys = 1; s.Keys <= 3; s.Keys++ {
				if schema.Right(s) {
					all = append(all, s)
				}
			}
		}
	}
	return all
}

func TestExtendsOverThird(t *testing.T) { // P5.6
	all := small()
	if len(all) != 2+8+4+32+16+8 {
		t.Fatalf("%d schemas", len(all))
	}
	chains := 0
	for _, a := range all {
		for _, b := range all {
			if !schema.Extends(a, b) {
				continue
			}
			if schema.Extends(b, a) != schema.Same(a, b) {
				t.Fatalf("%v, %v", a, b)
			}
			for _, c := range all {
				if !schema.Extends(b, c) {
					continue
				}
				chains++
				if !schema.Extends(a, c) {
					t.Fatalf("%v, %v, %v", a, b, c)
				}
			}
		}
	}
	if chains <= len(all) {
		t.Error("no chains")
	}
}
