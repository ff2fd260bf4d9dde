package words

import (
	"rubric/api"
	"rubric/nums"
)

// Endless is the most of Times that has no end.
const Endless = -1

// Bounded answers whether anything may be asked to stand least to most times.
func Bounded(least, most int) bool {
	if least < 0 || least > api.MaxOccur {
		return false
	}
	return most == Endless || most >= least && most <= api.MaxOccur
}

// times is a Part that stands again and again. Times in Times in Times would ask
// for more than can ever be: so what is known of the kid is kept.
type times struct {
	kid         Part
	least, most int
	places      int
	sets        map[nums.Key]nums.Set // where words end that begin in a set
	known       nums.Set              // the places whose row is known
	rows        []nums.Set            // where words end that begin at a place
}

// Times answers least to most words of p, one behind the other.
func (n Length) Times(least, most int, p Part) Part {
	if p.empty {
		// Empty words fill up any number: fewer ones do as well.
		least = 0
	}
	t := times{kid: p, least: least, most: most, places: int(n) + 1, sets: map[nums.Key]nums.Set{}}
	return Part{ends: t.ends, empty: least <= 0, repeats: true}
}

// ends puts so many words behind one another as there must be, and then those that
// may be: from no place twice, as more words are left there when it is come to
// first.
func (t *times) ends(from nums.Set) nums.Set {
	for n := 0; n < t.least && !from.Empty(); n++ {
		from = t.once(from)
	}
	all, fresh := from.Clone(), from
	for n := t.least; (t.most == Endless || n < t.most) && !fresh.Empty(); n++ {
		fresh = t.once(fresh).Less(all)
		all.Merge(fresh)
	}
	return all
}

// once answers where the kid's words end. There are too many sets of places to
// keep all of them: once there are as many as places, each place is asked for by
// itself.
func (t *times) once(from nums.Set) nums.Set {
	switch {
	case !t.kid.repeats:
		return t.kid.ends(from)
	case len(t.sets) < t.places:
		return t.set(from)
	}
	var all nums.Set
	for i := range from.Each {
		all.Merge(t.row(i))
	}
	return all
}

func (t *times) set(from nums.Set) nums.Set {
	key := from.Key()
	ends, known := t.sets[key]
	if !known {
		ends = t.kid.ends(from)
		t.sets[key] = ends
	}
	return ends
}

func (t *times) row(i int) nums.Set {
	if t.rows == nil {
		t.rows = make([]nums.Set, t.places)
	}
	if !t.known.Has(i) {
		t.known.Add(i)
		t.rows[i] = t.kid.ends(nums.One(i))
	}
	return t.rows[i]
}
