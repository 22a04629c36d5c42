package cjson

import (
	"slices"
	"strconv"

	"annals/api"
)

// Get goes down a path of members' names and of places in lists.
func Get(v api.Value, path ...string) (api.Value, bool) {
	for _, step := range path {
		at := place(v, step)
		if at < 0 || at >= len(v.Items) {
			return api.Value{}, false
		}
		v = v.Items[at]
	}
	return clone(v), true
}

// place is the number of the item to which a step leads, whether there is such an item or not; -1 if it leads nowhere.
func place(v api.Value, step string) int {
	switch v.Kind {
	case api.JObject:
		return slices.Index(v.Names, step)
	case api.JList:
		return count(step)
	}
	return -1
}

// count is the number that is written so, and in no other way; -1 if there is none.
func count(step string) int {
	n, err := strconv.Atoi(step)
	if err != nil || n < 0 || strconv.Itoa(n) != step {
		return -1
	}
	return n
}

// clone is a value with lists of its own, all the way down.
func clone(v api.Value) api.Value {
	v.Names = slices.Clone(v.Names)
	v.Items = slices.Clone(v.Items)
	for i, item := range v.Items {
		v.Items[i] = clone(item)
	}
	return v
}
