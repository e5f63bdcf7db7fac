package filter

import (
	"strings"

	"gouache/api"
	"gouache/octet"
)

// Bytes serializes a filter, be it valid or not.
func Bytes(f api.Filter) string {
	return numbers(f.Kind, f.Radius) + list(f.Kernel) + numbers(f.Div, f.Value) + list(f.Curve)
}

// list encodes integers after their number, so that it is known where they end.
func list(entries []int) string {
	return numbers(len(entries)) + numbers(entries...)
}

// numbers encodes integers one after another.
func numbers(all ...int) string {
	var encoded strings.Builder
	for _, n := range all {
		encoded.WriteString(octet.Var(n))
	}
	return encoded.String()
}
