"""Tests of the guarantees of [9] on drawn formats: what answers for several formats have to do with one another."""

from random import Random

from formatrepair.bounds import cost_counts, costliest_text, expensive, greatest_cost
from formatrepair.comparisons import Comparison
from formatrepair.formats import Format
from formatrepair.onepass import OnePass
from formatrepair.prices import Prices

from drawn import drawn_cases, drawn_format, drawn_prices
from support import Case


def greatest(prices, first, second):
    """Return the kind of a decision and the greatest cost, or None."""
    decision = Comparison(prices, first, second).decision()
    return decision[0], decision[1] if decision[0] == "bounded" else None


def least(prices, first, second):
    return OnePass(Comparison(prices, first, second)).least_cost


def endless(cost):
    return 10 ** 40 if cost is None else cost


def price_table(prices):
    """Return the alphabet and the prices as they are passed to Prices."""
    symbols = ["", *prices.alphabet()]
    return prices.alphabet(), {(x, y): prices.price(x, y) for x in symbols for y in symbols if x != y}


def scaled(prices, by):
    alphabet, table = price_table(prices)
    return Prices(alphabet, {pair: None if price is None else price * by for pair, price in table.items()})


def renamed(value, names):
    """Return a value with other letters in its texts."""
    if isinstance(value, str):
        return "".join(names[letter] for letter in value)
    if isinstance(value, Format):
        return Format([{names[letter]: state for letter, state in row.items()} for row in value.rows()], value.accepting())
    if isinstance(value, Prices):
        alphabet, table = price_table(value)
        return Prices(renamed(alphabet, names), {(renamed(x, names), renamed(y, names)): table[x, y] for x, y in table})
    if isinstance(value, list):
        return [renamed(item, names) for item in value]
    if isinstance(value, tuple):
        return tuple(item if item == "repeat" else renamed(item, names) for item in value)
    if isinstance(value, dict):
        return {renamed(key, names): item for key, item in value.items()}
    return value


def renamed_decision(decision, names):
    return decision[:1] + tuple(renamed(part, names) for part in decision[1:])


def renamed_game(decision, names):
    """Return the decision of a game with other letters in its strategy or plan."""
    kind, *rest = decision
    return (kind, *rest[:-1], [entry[:3] + tuple(renamed(part, names) for part in entry[3:]) for entry in rest[-1]])


def reversed_format(made):
    """Return the format of the reversed texts."""
    groups, rows = [frozenset(made.accepting())], []
    while len(rows) < len(groups):
        row = {}
        for letter in made.letters():
            group = frozenset(state for state in range(made.size) if made.next_state(state, letter) in groups[len(rows)])
            if group not in groups:
                groups.append(group)
            row[letter] = groups.index(group)
        rows.append(row)
    return Format(rows, [number for number, group in enumerate(groups) if 0 in group])


def other_table(made, random):
    """Return the same format from a table with states twice, in another order, and with states that mean nothing."""
    size = made.size
    places = list(range(2 * size + 2))
    random.shuffle(places)
    places.insert(0, places.pop(places.index(0)))
    rows = [{} for _ in places]
    for copy in range(2):
        for state, row in enumerate(made.rows()):
            rows[places[state + copy * size]] = {letter: places[behind + random.randrange(2) * size] for letter, behind in row.items()}
    lost = places[2 * size]
    rows[lost] = {"a": lost, "b": places[2 * size + 1]}
    for row in rows:
        for letter in "ab":
            if random.random() < 0.5:
                row.setdefault(letter, lost)
    return Format(rows, [places[state + copy * size] for state in made.accepting() for copy in range(2)])


class Guarantees(Case):

    def test_three_formats_in_a_row(self):
        random = Random(9)
        seen = 0
        for prices, first, second in drawn_cases(901, 150):
            third = drawn_format(random, "ab", random.randint(1, 3))
            for costs in (greatest, least):
                one, other, both = [costs(prices, *pair) for pair in ((first, second), (second, third), (first, third))]
                if costs is greatest:
                    one, other, both = one[1], other[1], both[1]
                if one is not None and other is not None:
                    self.assertIsNotNone(both)
                    self.assertLessEqual(both, one + other)
                    seen += 1
        self.assertGreater(seen, 80)

    def test_a_format_into_itself(self):
        for prices, first, second in drawn_cases(902, 40, "abc", ((1, 6), (1, 6))):
            for made in (first, second):
                self.assertEqual([greatest(prices, made, made), least(prices, made, made)], [("bounded", 0), 0])
            if (second | first).size <= 6:
                self.assertEqual(greatest(prices, second, second | first), ("bounded", 0))

    def test_a_union_of_first_formats(self):
        random = Random(903)
        for prices, first, second in drawn_cases(903, 60):
            other = drawn_format(random, "ab", 2)
            one, more = greatest(prices, first, second), greatest(prices, other, second)
            both = greatest(prices, first | other, second)
            kinds = [kind for kind in ("impossible", "unbounded", "bounded") if kind in (one[0], more[0])]
            self.assertEqual(both[0], kinds[0])
            if both[0] == "bounded":
                self.assertEqual(both[1], max(one[1], more[1]))
            self.assertGreaterEqual(endless(least(prices, first | other, second)),
                                    max(endless(least(prices, made, second)) for made in (first, other)))

    def test_a_larger_second_format(self):
        random = Random(904)
        for prices, first, second in drawn_cases(904, 60, sizes=((1, 3), (1, 2))):
            larger = second | drawn_format(random, "ab", 2)
            if larger.size <= 6:
                self.assertLessEqual(endless(greatest(prices, first, larger)[1]), endless(greatest(prices, first, second)[1]))

    def test_scaled_prices(self):
        for prices, first, second in drawn_cases(905, 60):
            costs = [price for price in price_table(prices)[1].values() if price is not None]
            if max(costs, default=0) <= 3:
                one, three = Comparison(prices, first, second), Comparison(scaled(prices, 3), first, second)
                kind, cost = greatest(prices, first, second)
                self.assertEqual(greatest(scaled(prices, 3), first, second), (kind, cost and 3 * cost))
                value = least(prices, first, second)
                self.assertEqual(least(scaled(prices, 3), first, second), value and 3 * value)
                if kind != "unbounded":
                    self.assertEqual(three.decision()[2 if kind == "bounded" else 1], one.decision()[2 if kind == "bounded" else 1])
                self.assertEqual(cost_counts(three, 4), {key and 3 * key: many for key, many in cost_counts(one, 4).items()})
                self.assertEqual(expensive(three, 5), expensive(one, 1))

    def test_reversed_texts(self):
        seen = 0
        for prices, first, second in drawn_cases(906, 60):
            back = reversed_format(first), reversed_format(second)
            self.assertEqual([reversed_format(made) for made in back], [first, second])
            if back[0].size <= 12 and back[1].size <= 6:
                self.assertEqual(greatest(prices, *back), greatest(prices, first, second))
                self.assertEqual(cost_counts(Comparison(prices, *back), 4), cost_counts(Comparison(prices, first, second), 4))
                seen += 1
        self.assertGreater(seen, 40)

    def test_renamed_letters_in_the_same_order(self):
        for prices, first, second in drawn_cases(907, 50) + drawn_cases(908, 20, "abc", ((2, 3), (2, 3))):
            names = {"a": "d", "b": "m", "c": "z"}
            one = Comparison(prices, first, second)
            other = Comparison(renamed(prices, names), renamed(first, names), renamed(second, names))
            self.assertEqual(other.decision(), renamed_decision(one.decision(), names))
            self.assertEqual(other.members(), one.members())
            for member in one.members()[::7]:
                self.assertEqual(other.pattern_of(member), renamed(one.pattern_of(member), names))
            self.assertEqual(OnePass(other).decision(), renamed_game(OnePass(one).decision(), names))
            self.assertEqual(cost_counts(other, 4), cost_counts(one, 4))
            if cost_counts(one, 4):
                self.assertEqual(costliest_text(other, 4), renamed(costliest_text(one, 4), names))
            self.assertEqual(expensive(other, 1), renamed(expensive(one, 1), names))

    def test_renamed_letters_in_another_order(self):
        for prices, first, second in drawn_cases(909, 60):
            names = {"a": "z", "b": "y"}
            one = (prices, first, second)
            other = tuple(renamed(part, names) for part in one)
            self.assertEqual(greatest(*other), greatest(*one))
            self.assertEqual(least(*other), least(*one))
            self.assertEqual(cost_counts(Comparison(*other), 5), cost_counts(Comparison(*one), 5))

    def test_the_same_formats_from_other_tables(self):
        random = Random(910)
        for prices, first, second in drawn_cases(910, 50):
            same = Comparison(prices, other_table(first, random), other_table(second, random))
            one = Comparison(prices, first, second)
            self.assertEqual(same, one)
            self.assertEqual(same.decision(), one.decision())
            self.assertEqual(same.members(), one.members())
            self.assertEqual(OnePass(same).decision(), OnePass(one).decision())
            if cost_counts(one, 7):
                self.assertEqual(greatest_cost(same, 7), greatest_cost(one, 7))

    def test_letters_that_no_text_has(self):
        # Edits over a letter of the alphabet that stands in no format still make chains cheaper.
        prices = Prices("abc", {("a", "c"): 1, ("c", "b"): 1, ("a", "b"): 9})
        self.assertEqual(greatest(prices, Format.parse("a"), Format.parse("b")), ("bounded", 2))

    def test_repairs_letter_by_letter_cost_no_less(self):
        for case in drawn_cases(911, 80):
            kind, cost = greatest(*case)
            self.assertGreaterEqual(endless(least(*case)), endless(cost))

    def test_equal_calls_have_equal_results(self):
        for case in drawn_cases(912, 25):
            one, other = Comparison(*case), Comparison(*case)
            one.members(), OnePass(one).decision(), cost_counts(one, 20)
            self.assertEqual(one.decision(), other.decision())
            self.assertEqual(OnePass(one).decision(), OnePass(other).decision())
