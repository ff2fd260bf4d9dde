package date

import "strings"

// A field reads its part from a text's front, and answers what is left behind
// it; or false, if its part does not stand there.
type field func(s string) (rest string, ok bool)

// read reads the fields one behind the other.
func read(s string, l ...field) (rest string, ok bool) {
	for _, f := range l {
		if s, ok = f(s); !ok {
			return "", false
		}
	}
	return s, true
}

// whole tells whether the fields read all of s.
func whole(s string, l ...field) bool {
	rest, ok := read(s, l...)
	return ok && rest == ""
}

// fieldsOf answers the fields of m's Kind, which read into m; none, if there is
// no such kind.
func fieldsOf(m *Moment) []field {
	dash, year, month, day := mark("-"), yearInto(&m.Year), two(&m.Month, 1, 12), dayInto(m)
	clock, fraction, zone := clockInto(&m.Sec), fractionInto(&m.Nano), zoneInto(m)
	switch m.Kind {
	case DateTime:
		return []field{year, dash, month, dash, day, mark("T"), clock, fraction, zone}
	case Date:
		return []field{year, dash, month, dash, day, zone}
	case Time:
		return []field{clock, fraction, zone}
	case YearMonth:
		return []field{year, dash, month, zone}
	case Year:
		return []field{year, zone}
	case MonthDay:
		return []field{dash, dash, month, dash, day, zone}
	case Day:
		return []field{dash, dash, dash, day, zone}
	case Month:
		return []field{dash, dash, month, zone}
	}
	return nil
}

// mark reads that text.
func mark(text string) field {
	return func(s string) (string, bool) { return strings.CutPrefix(s, text) }
}

// digits answers the number at the front of s, of at most so many digits, and
// how many it has.
func digits(s string, most int) (n, count int) {
	for count < min(len(s), most) && s[count] >= '0' && s[count] <= '9' {
		n = 10*n + int(s[count]-'0')
		count++
	}
	return n, count
}

// number reads 1 to 9 digits.
func number(into *int) field {
	return func(s string) (string, bool) {
		n, count := digits(s, 9)
		*into = n
		return s[count:], count > 0
	}
}

// two reads two digits that are within bounds.
func two(into *int, least, most int) field {
	return func(s string) (string, bool) {
		n, count := digits(s, 2)
		*into = n
		return s[count:], count == 2 && n >= least && n <= most
	}
}

// yearInto reads a year with its sign.
func yearInto(year *int) field {
	return func(s string) (string, bool) {
		s, below := strings.CutPrefix(s, "-")
		n, count := digits(s, 9)
		*year = n
		if below {
			*year = -n
		}
		long := count > 4
		return s[count:], count >= 4 && n > 0 && !(long && s[0] == '0')
	}
}

// dayInto reads a day of m's month, which is known only once it is read.
func dayInto(m *Moment) field {
	return func(s string) (string, bool) {
		return two(&m.Day, 1, Length(m.Year, m.Month))(s)
	}
}

// clockInto reads a time to the second; the day's end too.
func clockInto(sec *int) field {
	return func(s string) (string, bool) {
		var hour, minute, second int
		rest, ok := read(s, two(&hour, 0, 24), mark(":"), two(&minute, 0, 59), mark(":"), two(&second, 0, 59))
		*sec = 3600*hour + 60*minute + second
		return rest, ok && *sec <= seconds
	}
}

// fractionInto reads a point with 1 to 9 digits, or nothing.
func fractionInto(nano *int) field {
	return func(s string) (string, bool) {
		s, point := strings.CutPrefix(s, ".")
		if !point {
			return s, true
		}
		n, count := digits(s, 9)
		for range 9 - count {
			n *= 10
		}
		*nano = n
		return s[count:], count > 0
	}
}

// zoneInto reads a zone, which is the last thing of a text, or nothing.
func zoneInto(m *Moment) field {
	return func(s string) (string, bool) {
		if s == "" {
			return "", true
		}
		m.HasZone = true
		if s == "Z" {
			return "", true
		}
		var hour, minute int
		ok := whole(s[1:], two(&hour, 0, 14), mark(":"), two(&minute, 0, 59))
		m.Zone = 60*hour + minute
		if !ok || m.Zone > farthest {
			return "", false
		}
		switch s[0] {
		case '-':
			m.Zone = -m.Zone
			return "", true
		case '+':
			return "", true
		}
		return "", false
	}
}

// span reads a whole span.
func span(d *Span) field {
	return func(s string) (string, bool) {
		s, below := strings.CutPrefix(s, "-")
		s, ok := strings.CutPrefix(s, "P")
		days, times, timed := strings.Cut(s, "T")
		if !ok || s == "" || timed && times == "" {
			return "", false
		}
		if !whole(days, part("Y", 12, &d.Months), part("M", 1, &d.Months), part("D", seconds, &d.Sec)) {
			return "", false
		}
		if !whole(times, part("H", 3600, &d.Sec), part("M", 60, &d.Sec), lastPart(d)) {
			return "", false
		}
		if below {
			*d = Span{Months: -d.Months, Sec: -d.Sec, Nano: -d.Nano}
		}
		return "", true
	}
}

// part reads a number with that letter, or nothing, and adds it to a sum. What
// it leaves may be the next part's.
func part(letter string, unit int, sum *int) field {
	return func(s string) (string, bool) {
		var n int
		rest, ok := read(s, number(&n), mark(letter))
		if !ok {
			return s, true
		}
		*sum += n * unit
		return rest, true
	}
}

// lastPart reads a span's seconds, or nothing.
func lastPart(d *Span) field {
	return func(s string) (string, bool) {
		if s == "" {
			return "", true
		}
		var n int
		rest, ok := read(s, number(&n), fractionInto(&d.Nano), mark("S"))
		d.Sec += n
		return rest, ok
	}
}
