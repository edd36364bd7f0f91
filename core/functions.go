package core

import "pleacher/api"

// function of the core: its name there, and how many arguments it has.
type function struct {
	name string
	args int
}

// table of functions, by the names by which they are called.
type table map[string]function

// add functions that are called by their own names.
func (t table) add(args int, names ...string) {
	for _, name := range names {
		t[name] = function{name, args}
	}
}

func (t table) check(name string, args int) api.Errno {
	f, there := t[name]
	if !there {
		return api.ErrNone
	}
	if f.args != args {
		return api.ErrCount
	}
	return api.OK
}

// calls: what queries may call.
func calls() table {
	t := table{
		"distinct-values": {"distinct", 1},
		"string-length":   {"length", 1},
		"starts-with":     {"starts", 2},
	}
	t.add(1, "count", "empty", "exists", "not", "boolean", "sum", "min", "max", "reverse", "string", "data", "integer", "name")
	t.add(2, "concat", "contains")
	t.add(3, "substring")
	return t
}

// operators: what stands between its arguments in queries.
func operators() table {
	t := table{"|": {"union", 2}}
	t.add(2, "+", "-", "*", "div", "mod", "=", "!=", "<", "<=", ">", ">=", "is", "<<", ">>")
	t.add(2, "and", "or", "to", "union", "intersect", "except")
	return t
}

// functions of the core: all that queries come to.
func functions() table {
	t := table{}
	for _, f := range calls() {
		t.add(f.args, f.name)
	}
	for _, f := range operators() {
		t.add(f.args, f.name)
	}
	t.add(1, "ddo", "neg")
	t.add(2, "holds")
	return t
}
