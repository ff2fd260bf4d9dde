package date

// The Gregorian rule comes round in so many years, which have so many days.
const (
	roundYears = 400
	roundDays  = 400*365 + 97
)

// Leap tells whether a year has a 29th of February.
func Leap(year int) bool {
	n := placeOf(year)
	return n%4 == 0 && (n%100 != 0 || n%400 == 0)
}

// Length answers how many days a month has; 0, if there is no such month.
func Length(year, month int) int {
	switch month {
	case 1, 3, 5, 7, 8, 10, 12:
		return 31
	case 4, 6, 9, 11:
		return 30
	case 2:
		if Leap(year) {
			return 29
		}
		return 28
	}
	return 0
}

// Days answers how many days a day is behind 2000-01-01. A month or a day that
// the calendar does not have is counted on from the year's, the month's first.
func Days(year, month, day int) int {
	over, month := carry(month-1, 12)
	place := placeOf(year) + over
	days := daysFrom2000(place-2000) + day - 1
	for k := range month {
		days += Length(yearAt(place), k+1)
	}
	return days
}

// dayAt answers the day that is so many behind 2000-01-01.
func dayAt(days int) (year, month, day int) {
	rounds, days := carry(days, roundDays)
	// By years of 366 days each it may be one too few.
	years := days / 366
	if daysFrom2000(years+1) <= days {
		years++
	}
	days -= daysFrom2000(years)
	year, month = yearAt(2000+rounds*roundYears+years), 1
	for days >= Length(year, month) {
		days -= Length(year, month)
		month++
	}
	return year, month, days + 1
}

// daysFrom2000 answers how many days so many years have, the first of them 2000.
// Of years below 0 it is the days ahead of 2000, below 0 too.
func daysFrom2000(years int) int {
	leap := func(each int) int {
		// 2000 is one by each rule: one year has one already.
		n, _ := carry(years+each-1, each)
		return n
	}
	return 365*years + leap(4) - leap(100) + leap(400)
}

// placeOf answers a year's place in a row without a gap: as there is no year 0,
// -1 stands at 0.
func placeOf(year int) int {
	if year < 0 {
		return year + 1
	}
	return year
}

// yearAt answers the year at a place.
func yearAt(place int) int {
	if place <= 0 {
		return place - 1
	}
	return place
}

// carry answers how often size goes into n, and the rest: 0 to size less 1, below
// 0 too.
func carry(n, size int) (over, rest int) {
	over, rest = n/size, n%size
	if rest < 0 {
		over--
		rest += size
	}
	return over, rest
}
