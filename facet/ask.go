package facet

import (
	"slices"

	"rubric/char"
	"rubric/date"
	"rubric/kind"
	"rubric/nfa"
)

// ask is what a facet asks of a text, as it is put, and of its values.
type ask func(text string, v []kind.Value) bool

// counted asks for a length, or for a number of digits.
func counted(facet, n int, list bool) ask {
	switch facet {
	case MinLength:
		return long(list, func(size int) bool { return size >= n })
	case MaxLength:
		return long(list, func(size int) bool { return size <= n })
	case Total:
		return number(func(v kind.Value) bool { return v.Num.Total() <= n })
	case Fraction:
		return number(func(v kind.Value) bool { return v.Num.Fraction() <= n })
	}
	return long(list, func(size int) bool { return size == n })
}

// long asks how many values there are; or of one value that is no list's, how many
// letters.
func long(list bool, is func(size int) bool) ask {
	return func(_ string, v []kind.Value) bool {
		if list || len(v) != 1 {
			return is(len(v))
		}
		return is(char.Count(v[0].Text))
	}
}

// single asks of the one value; of none or several it asks nothing.
func single(is func(v kind.Value) bool) ask {
	return func(_ string, v []kind.Value) bool {
		return len(v) != 1 || is(v[0])
	}
}

// number asks of the one value, if it is a number.
func number(is func(v kind.Value) bool) ask {
	return single(func(v kind.Value) bool {
		return v.Prim != kind.Decimal || is(v)
	})
}

// bounded asks how the one value stands to a bound.
func bounded(facet int, bound kind.Value) ask {
	orders := ordersOf(facet)
	return single(func(v kind.Value) bool {
		return slices.Contains(orders, kind.Cmp(v, bound))
	})
}

// ordersOf answers how a value may stand to a bound. Unknown is none of them.
func ordersOf(facet int) []int {
	switch facet {
	case MaxIn:
		return []int{date.Less, date.Equal}
	case MaxEx:
		return []int{date.Less}
	case MinIn:
		return []int{date.Greater, date.Equal}
	}
	return []int{date.Greater}
}

// matched asks that one of the patterns matches the text.
func matched(patterns []*nfa.Matcher) ask {
	return func(text string, _ []kind.Value) bool {
		return slices.ContainsFunc(patterns, func(m *nfa.Matcher) bool { return m.Match(text) })
	}
}

// listed asks that one of the enumeration's rows is the values.
func listed(rows [][]kind.Value) ask {
	return func(_ string, v []kind.Value) bool {
		return slices.ContainsFunc(rows, func(row []kind.Value) bool {
			return slices.EqualFunc(row, v, kind.Same)
		})
	}
}
