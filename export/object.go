package export

import "annals/api"

// tell is the object that tells a T.
func tell[T any](members []member[T], t *T) api.Value {
	out := api.Value{Kind: api.JObject, Names: make([]string, 0, len(members)), Items: make([]api.Value, 0, len(members))}
	for _, m := range members {
		v := m.take(t)
		if m.sparse && isZero(v) {
			continue
		}
		out.Names = append(out.Names, m.name)
		out.Items = append(out.Items, v)
	}
	return out
}

// tellAll is the objects that tell a list, and true; or false, as soon as their text is sure to be too long: what is given may share its bytes, so that a text of it would be far greater than it is.
func tellAll[T any](members []member[T], list []T) ([]api.Value, bool) {
	var out []api.Value
	length := 0
	for i := range list {
		v := tell(members, &list[i])
		if length += leastLength(v); length > api.MaxJSON {
			return nil, false
		}
		out = append(out, v)
	}
	return out, true
}

// leastLength is a length that the text of a value is not below.
func leastLength(v api.Value) int {
	n := 1 + len(v.Text)
	for _, name := range v.Names {
		n += len(name)
	}
	for _, item := range v.Items {
		n += leastLength(item)
	}
	return n
}

// read is the T that an object tells. The names of both, the object and the table, rise.
func read[T any](members []member[T], v api.Value) (T, api.Errno) {
	var out T
	if v.Kind != api.JObject {
		return out, api.ErrShape
	}
	e, next := api.OK, 0
	for _, m := range members {
		if next < len(v.Names) && v.Names[next] == m.name {
			e = graver(e, m.put(&out, v.Items[next]))
			next++
		} else if !m.sparse {
			return out, api.ErrShape
		}
	}
	if next < len(v.Names) {
		return out, api.ErrShape
	}
	return out, e
}

// readAll is what the items of an array tell, each read by one; or the gravest fault of all, and of several such the first.
func readAll[T any](items []api.Value, one func(api.Value) (T, api.Errno)) ([]T, api.Errno) {
	var out []T
	e := api.OK
	for _, v := range items {
		t, fault := one(v)
		if e = graver(e, fault); e == api.OK {
			out = append(out, t)
		}
	}
	if e != api.OK {
		return nil, e
	}
	return out, api.OK
}

// graver is the fault that is told of two, the first of which was found first: another shape anywhere comes ahead of what a value says, and so do raw bytes that are none.
func graver(first, second api.Errno) api.Errno {
	if gravity(second) > gravity(first) {
		return second
	}
	return first
}

func gravity(e api.Errno) int {
	switch e {
	case api.OK:
		return 0
	case api.ErrHex:
		return 2
	case api.ErrShape:
		return 3
	}
	return 1
}
