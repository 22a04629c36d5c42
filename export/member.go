package export

import "annals/api"

// member is one member of the object that tells a T. A table of them lists the members by rising name, as a canonical text does.
type member[T any] struct {
	name   string
	sparse bool // it is there just if its value is not zero
	take   func(*T) api.Value
	put    func(*T, api.Value) api.Errno
}

func integer[T any](name string, field func(*T) *int) member[T] {
	return member[T]{
		name: name,
		take: func(t *T) api.Value { return api.Value{Kind: api.JInt, Int: *field(t)} },
		put: func(t *T, v api.Value) api.Errno {
			*field(t) = v.Int
			return ofKind(v, api.JInt)
		},
	}
}

func text[T any](name string, field func(*T) *string) member[T] {
	return member[T]{
		name: name,
		take: func(t *T) api.Value { return textOf(*field(t)) },
		put: func(t *T, v api.Value) api.Errno {
			*field(t) = v.Text
			return ofKind(v, api.JText)
		},
	}
}

func flag[T any](name string, field func(*T) *bool) member[T] {
	return member[T]{
		name: name,
		take: func(t *T) api.Value {
			if *field(t) {
				return api.Value{Kind: api.JBool, Int: 1}
			}
			return api.Value{Kind: api.JBool}
		},
		put: func(t *T, v api.Value) api.Errno {
			*field(t) = v.Int == 1
			return ofKind(v, api.JBool)
		},
	}
}

// word is a member that tells a number, from 1 to last, by its word.
func word[T any](name string, last int, wordOf func(int) string, field func(*T) *int) member[T] {
	return member[T]{
		name: name,
		take: func(t *T) api.Value { return textOf(wordOf(*field(t))) },
		put: func(t *T, v api.Value) api.Errno {
			if v.Kind != api.JText {
				return api.ErrShape
			}
			for n := 1; n <= last; n++ {
				if v.Text == wordOf(n) {
					*field(t) = n
					return api.OK
				}
			}
			return api.ErrState
		},
	}
}

func data[T any](name string, field func(*T) *[]byte) member[T] {
	return member[T]{
		name: name,
		take: func(t *T) api.Value { return tellBytes(*field(t)) },
		put: func(t *T, v api.Value) (e api.Errno) {
			*field(t), e = readBytes(v)
			return e
		},
	}
}

func dataList[T any](name string, field func(*T) *[][]byte) member[T] {
	return member[T]{
		name: name,
		take: func(t *T) api.Value {
			var items []api.Value
			for _, b := range *field(t) {
				items = append(items, tellBytes(b))
			}
			return listOf(items)
		},
		put: func(t *T, v api.Value) (e api.Errno) {
			if v.Kind != api.JList {
				return api.ErrShape
			}
			*field(t), e = readAll(v.Items, readBytes)
			return e
		},
	}
}

// values is a member that is an array whatever its items are.
func values[T any](name string, field func(*T) *[]api.Value) member[T] {
	return member[T]{
		name: name,
		take: func(t *T) api.Value { return listOf(*field(t)) },
		put: func(t *T, v api.Value) api.Errno {
			*field(t) = v.Items
			return ofKind(v, api.JList)
		},
	}
}

// unlessZero is the member, but there just if its value is not zero.
func unlessZero[T any](m member[T]) member[T] {
	put := m.put
	m.sparse = true
	m.put = func(t *T, v api.Value) api.Errno {
		e := put(t, v)
		if e == api.OK && isZero(v) {
			return api.ErrState
		}
		return e
	}
	return m
}

// isZero tells whether an integer, a string or raw bytes are the zero of a record's field.
func isZero(v api.Value) bool { return v.Int == 0 && v.Text == "" && len(v.Items) == 0 }

func textOf(s string) api.Value { return api.Value{Kind: api.JText, Text: s} }

func listOf(items []api.Value) api.Value { return api.Value{Kind: api.JList, Items: items} }

func ofKind(v api.Value, kind int) api.Errno {
	if v.Kind != kind {
		return api.ErrShape
	}
	return api.OK
}
