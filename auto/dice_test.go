package auto_test

import "rubric/terms"

// dice throw terms of few names, not too many of which are alike.
type dice struct{ *terms.Dice }

func newDice(seed int) dice {
	return dice{terms.NewDice(seed,
		elem("a"), elem("b"), elem("c"), elem("d"), elem("e"), elem("u:a"), elem("u:b"), elem("v:c"), elem("v:a"), elem("a"), elem("b"),
		anyOf(every()), anyOf(other("u")), anyOf(these("u")), anyOf(these("v", "w")), anyOf(these("")), anyOf(these()),
	)}
}
