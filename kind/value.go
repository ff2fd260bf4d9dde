package kind

import (
	"strconv"
	"strings"

	"rubric/api"
	"rubric/char"
	"rubric/date"
	"rubric/dec"
)

// Value is a value of a kind, in the field of its topmost kind Prim: of string
// and boolean Text, of decimal Num, of times When, of spans Span.
type Value struct {
	Prim int
	Text string
	Num  dec.Dec
	When date.Moment
	Span date.Span
}

// Parse answers the value of kind k that s tells; or ErrForm; or ErrArg, if there
// is no such kind.
func Parse(k int, s string) (Value, api.Errno) {
	if !known(k) {
		return Value{}, api.ErrArg
	}
	v, ok := read(k, char.Space(s, White(k)))
	if !ok {
		return Value{}, api.ErrForm
	}
	return v, api.OK
}

// read answers the value of a text whose blanks are put already. Whatever is
// wrong with it, dec's ErrMany too, is one thing to Parse.
func read(k int, s string) (v Value, ok bool) {
	var err api.Errno
	v.Prim = Prim(k)
	switch v.Prim {
	case String:
		v.Text = s
		return v, named(k, s)
	case Boolean:
		v.Text, ok = truth(s)
		return v, ok
	case Decimal:
		v.Num, err = dec.Parse(s)
		return v, err == api.OK && counted(k, s, v.Num)
	case Duration:
		v.Span, err = date.ParseSpan(s)
	default:
		// date's kinds of moments stand in the same order.
		v.When, err = date.Parse(k-DateTime+date.DateTime, s)
	}
	return v, err == api.OK
}

// named tells whether s is such a name as string's kind k asks for.
func named(k int, s string) bool {
	switch k {
	case NMToken:
		return char.Token(s)
	case NameKind:
		return char.Name(s)
	case NCName, ID, IDRef:
		return char.NCName(s)
	}
	return true
}

// truth answers a boolean's one text.
func truth(s string) (text string, ok bool) {
	switch s {
	case "true", "1":
		return "true", true
	case "false", "0":
		return "false", true
	}
	return "", false
}

// counted tells whether n, which is written as s, is one of decimal's kind k.
func counted(k int, s string, n dec.Dec) bool {
	if k == Decimal {
		return true
	}
	// The number alone does not tell that it was written as 1.0.
	if strings.Contains(s, ".") {
		return false
	}
	sign := dec.Cmp(n, dec.Int(0))
	switch k {
	case NonPositive:
		return sign <= 0
	case Negative:
		return sign < 0
	case NonNegative:
		return sign >= 0
	case Positive:
		return sign > 0
	case Long, Int, Short, Byte:
		_, err := strconv.ParseInt(n.Text(), 10, width(k))
		return err == nil
	case UnsignedLong, UnsignedInt, UnsignedShort, UnsignedByte:
		_, err := strconv.ParseUint(n.Text(), 10, width(k))
		return err == nil
	}
	return true
}

// width is how many bits hold an integer of a kind that has such a bound: each
// has twice as many as the next one below it.
func width(k int) int {
	bits := 8
	switch k {
	case Long, UnsignedLong:
		bits *= 2
		fallthrough
	case Int, UnsignedInt:
		bits *= 2
		fallthrough
	case Short, UnsignedShort:
		bits *= 2
	}
	return bits
}

// Cmp answers date's Less, Equal, Greater; or Unknown, if the values have no such
// order.
func Cmp(a, b Value) int {
	if a.Prim != b.Prim {
		return date.Unknown
	}
	switch a.Prim {
	case String, Boolean:
		if a.Text == b.Text {
			return date.Equal
		}
	case Decimal:
		// dec's -1, 0, 1 are date's Less, Equal, Greater.
		return dec.Cmp(a.Num, b.Num)
	case DateTime, Date, Time, YearMonth, Year, MonthDay, Day, Month:
		return date.Cmp(a.When, b.When)
	case Duration:
		return date.CmpSpan(a.Span, b.Span)
	}
	return date.Unknown
}

// Same tells whether Cmp is Equal.
func Same(a, b Value) bool {
	return Cmp(a, b) == date.Equal
}

// Text answers a value as a text: of a time or a span not as it is written there,
// but by its fields, behind the name that tells what they are.
func Text(v Value) string {
	switch v.Prim {
	case String, Boolean:
		return v.Text
	case Decimal:
		return v.Num.Text()
	case DateTime, Date, Time, YearMonth, Year, MonthDay, Day, Month:
		m := v.When
		fields := []int{m.Year, m.Month, m.Day, m.Sec, m.Nano}
		if m.HasZone {
			fields = append(fields, m.Zone)
		}
		return row(v.Prim, fields...)
	case Duration:
		return row(v.Prim, v.Span.Months, v.Span.Sec, v.Span.Nano)
	}
	return ""
}

// row answers a kind's name and the fields behind it.
func row(k int, fields ...int) string {
	words := []string{Name(k)}
	for _, n := range fields {
		words = append(words, strconv.Itoa(n))
	}
	return strings.Join(words, " ")
}
