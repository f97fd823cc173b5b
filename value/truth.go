package value

import "refit/api"

// Not exchanges No and Yes.
func Not(a api.Truth) api.Truth {
	switch a {
	case api.No:
		return api.Yes
	case api.Yes:
		return api.No
	}
	return api.Unknown
}

// And is No if one of the two is, and else Yes only if both are.
func And(a, b api.Truth) api.Truth {
	if a == api.No || b == api.No {
		return api.No
	}
	if a == api.Yes && b == api.Yes {
		return api.Yes
	}
	return api.Unknown
}

// Or is Yes if one of the two is, and else No only if both are.
func Or(a, b api.Truth) api.Truth {
	return Not(And(Not(a), Not(b)))
}

// Bool returns the value FALSE or TRUE.
func Bool(yes bool) api.Value {
	if yes {
		return api.Value{Kind: api.Bool, N: 1}
	}
	return api.Value{Kind: api.Bool}
}

// Truth returns No for FALSE, Yes for TRUE, and Unknown for every other value.
func Truth(v api.Value) api.Truth {
	if v == Bool(false) {
		return api.No
	}
	if v == Bool(true) {
		return api.Yes
	}
	return api.Unknown
}
