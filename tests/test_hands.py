"""Dealings to several hands: by hand, and of many made-up errands against a trial of all dealings."""

import inspect
import itertools
import unittest

from ranksure.dealing import fitting
from ranksure.errors import NoErrands, NoNumber
from ranksure.hands import dealt, fewest_hands
from tests.made_up import Numbers, all_ranks, made_up, plain_fit


def errand(*parts, every=60, due=60, late=0):
    return (every, due, late, parts)


def plain(work, every=60, due=60, late=0):
    return (every, due, late, ((work, None),))


# Each of these needs a hand of its own.
FULL = plain(2, every=2, due=2)


class ArgumentsTest(unittest.TestCase):
    def test_arguments(self):
        self.assertEqual(list(inspect.signature(dealt).parameters), ["errands", "hands"])
        self.assertEqual(list(inspect.signature(fewest_hands).parameters), ["errands"])


class ByHandTest(unittest.TestCase):
    def same(self, errands, hands, expected):
        """The dealing, where but the order of the hands is free."""
        told = dealt(errands, hands)
        self.assertIs(told.__class__, list)
        self.assertEqual(len(told), hands)
        for row in told:
            self.assertIs(row.__class__, list)
        self.assertEqual(sorted(told), sorted(expected))

    def test_one_hand(self):
        self.same((plain(1),), 1, [[0]])
        self.same((plain(1), plain(2), plain(3)), 1, [[0, 1, 2]])
        self.assertEqual(fewest_hands((plain(1), plain(2), plain(3))), 1)

    def test_empty_hands(self):
        self.same((plain(1),), 2, [[0], []])
        self.same((plain(1),), 4, [[0], [], [], []])
        together = (errand((1, 0), (1, None)), errand((1, 0), (1, None)))
        self.same(together, 3, [[0, 1], [], []])

    def test_one_hand_each(self):
        for many in (1, 2, 3, 4):
            errands = (FULL,) * many
            self.same(errands, many, [[number] for number in range(many)])
            self.assertEqual(fewest_hands(errands), many)
            for fewer in range(1, many):
                self.assertIsNone(dealt(errands, fewer))
        self.same((FULL, FULL), 4, [[0], [1], [], []])

    def test_four_are_not_enough(self):
        for many in (5, 6):
            for hands in (1, 2, 3, 4):
                self.assertIsNone(dealt((FULL,) * many, hands))
            self.assertIsNone(fewest_hands((FULL,) * many))

    def test_an_errand_that_no_hand_can_do(self):
        for hands in (1, 2, 3, 4):
            self.assertIsNone(dealt((plain(1), plain(3, due=2)), hands))
        self.assertIsNone(fewest_hands((plain(1), plain(3, due=2))))
        self.assertIsNone(fewest_hands((plain(3, due=2),)))

    def test_one_way_alone(self):
        # Works of 7, 5, 6, 4, 3 and 5 in 10 times each: only so each hand has 10.
        works = (7, 5, 6, 4, 3, 5)
        errands = tuple([plain(work, every=10, due=10) for work in works])
        self.same(errands, 3, [[0, 4], [1, 5], [2, 3]])
        self.assertIsNone(dealt(errands, 2))
        self.assertEqual(fewest_hands(errands), 3)

    def test_first_come_would_not_do(self):
        # The first hand has room for errand 1 beside errand 0, but then errand 2 finds none.
        errands = tuple([plain(work, every=10, due=10) for work in (4, 3, 6, 7)])
        self.same(errands, 2, [[0, 2], [1, 3]])

    def test_one_tool_one_hand(self):
        errands = (errand((1, 3), (1, None), due=3), errand((1, 3), (1, None), due=3))
        for hands in (1, 2, 3, 4):
            self.assertIsNone(dealt(errands, hands))
        self.assertIsNone(fewest_hands(errands))
        # With a tool each they need not be together.
        apart = (errands[0], errand((1, 2), (1, None), due=3))
        self.assertIsNone(dealt(apart, 1))
        self.same(apart, 2, [[0], [1]])
        self.assertEqual(fewest_hands(apart), 2)

    def test_each_tool_binds(self):
        for tool in range(4):
            errands = (errand((1, tool), (1, None), due=3), errand((1, None), (1, tool), (1, None), due=3))
            self.assertIsNone(fewest_hands(errands))

    def test_and_so_on_by_others(self):
        # Errands 0 and 3 have no tool in common, but each has one in common with errand 2.
        first = errand((1, 0), (1, None), due=10)
        middle = errand((1, 1), (1, 0), (1, None), due=10)
        last = errand((1, 1), (1, None), due=10)
        self.same((first, FULL, middle, last), 2, [[0, 2, 3], [1]])
        self.same((first, FULL, last, middle), 3, [[0, 2, 3], [1], []])
        self.same((middle, FULL, first, last), 2, [[0, 2, 3], [1]])
        # Works of 2, 3 and 2 are too much for dues of 6, though two of them would go.
        tight = tuple([one[:1] + (6,) + one[2:] for one in (first, middle, last)])
        self.assertIsNone(fewest_hands(tight))
        self.assertEqual(fewest_hands((tight[0], tight[2])), 1)

    def test_by_a_long_row_of_others(self):
        links = [errand((1, tool), (1, other), (1, None)) for tool, other in ((0, 1), (2, 3), (1, 2))]
        ends = [errand((1, 0), (1, None)), errand((1, 3), (1, None))]
        errands = tuple(ends + links + [FULL])
        self.same(errands, 2, [[0, 1, 2, 3, 4], [5]])
        for order in itertools.permutations(range(6)):
            told = dealt(tuple([errands[number] for number in order]), 2)
            self.assertEqual(sorted([len(row) for row in told]), [1, 5])

    def test_parts_without_a_tool_bind_nobody(self):
        errands = (errand((1, None), (1, None), every=2, due=2), errand((1, None), (1, None), every=2, due=2))
        self.same(errands, 2, [[0], [1]])

    def test_numbered_anew(self):
        # The tools of errands that other hands do hold nobody up here.
        errands = (FULL, errand((4, 0), (1, None)), FULL, errand((1, 0), (1, None), due=5), plain(1))
        self.assertEqual(fewest_hands(errands), 3)
        self.assertIn([0], dealt(errands, 3))
        self.assertIn([2], dealt(errands, 3))
        self.assertIn([1, 3, 4], dealt(errands, 3))


class NoNumberTest(unittest.TestCase):
    THINGS = (0, 5, -1, 10 ** 30, True, False, None, "", "1", 1.0, [], [1], (1,), {}, object())

    def test_no_number(self):
        for thing in self.THINGS:
            for errands in ((plain(1),), (FULL,) * 6):
                with self.assertRaises(NoNumber, msg=repr(thing)):
                    dealt(errands, thing)

    def test_no_errands_goes_ahead(self):
        for errands in ((), None, [plain(1)], (plain(1),) * 7, (None,)):
            for thing in self.THINGS + (1, 4):
                with self.assertRaises(NoErrands, msg=repr((errands, thing))):
                    dealt(errands, thing)


def tools_of(errand):
    return {tool for _, tool in errand[3] if tool is not None}


def keeps_tools_together(errands, places):
    for number, other in itertools.combinations(range(len(errands)), 2):
        if places[number] != places[other] and tools_of(errands[number]) & tools_of(errands[other]):
            return False
    return True


def some_of(errands, numbers):
    return tuple([errands[number] for number in numbers])


class Trial:
    """All dealings of some errands, tried out; what is known of a pile of errands is not tried again."""

    def __init__(self, errands):
        self.errands = errands
        self.known = {(): True}

    def fits(self, numbers):
        if numbers not in self.known:
            some = some_of(self.errands, numbers)
            self.known[numbers] = any([plain_fit(some, ranks) for ranks in all_ranks(some)])
        return self.known[numbers]

    def piles(self, places, hands):
        return [tuple([n for n, place in enumerate(places) if place == hand]) for hand in range(hands)]

    def is_dealing(self, places, hands):
        if not keeps_tools_together(self.errands, places):
            return False
        return all([self.fits(pile) for pile in self.piles(places, hands)])

    def there_is_one(self, hands):
        ways = itertools.product(range(hands), repeat=len(self.errands))
        return any(self.is_dealing(places, hands) for places in ways)


def packed(many, start):
    """Errands of which each fills much of a hand, some with a tool."""
    numbers = Numbers(start)
    for _ in range(many):
        errands = []
        for _ in range(numbers.between(3, 5)):
            parts = ((1, numbers.one_of((0, 1, None, None, None, None))), (numbers.between(2, 9), None))
            errands.append(errand(*parts, every=10, due=10))
        yield tuple(errands), None


def small_kinds():
    return itertools.chain(
        made_up(100, 81, most=4, everies=range(6, 20), late=2, length=3, tools=(0, 1, 2, 3, None, None, None, None)),
        made_up(100, 82, most=4, everies=range(10, 40), late=3, length=3, tools=(0, 1, 2, 3, None, None)),
        made_up(60, 83, most=5, everies=range(4, 12), late=1, length=2, tools=(None,)),
        packed(60, 87),
        made_up(40, 84, most=5, everies=range(20, 40), late=6, length=4, tools=(0, 1, 2, 3)),
    )


class AgainstTrialTest(unittest.TestCase):
    def is_a_dealing(self, errands, hands, told):
        self.assertIs(told.__class__, list)
        self.assertEqual(len(told), hands)
        self.assertEqual(sorted(itertools.chain(*told)), list(range(len(errands))))
        places = [[hand for hand, row in enumerate(told) if number in row][0] for number in range(len(errands))]
        self.assertTrue(keeps_tools_together(errands, places), (errands, told))
        for row in told:
            self.assertIs(row.__class__, list)
            self.assertEqual(row, sorted(row))
            if row:
                self.assertIsNotNone(fitting(some_of(errands, row)), (errands, told))

    def test_all_dealings(self):
        fewest = {}
        for errands, _ in small_kinds():
            trial = Trial(errands)
            enough = []
            for hands in (1, 2, 3, 4):
                told = dealt(errands, hands)
                there = trial.there_is_one(hands)
                self.assertEqual(told is not None, there, (errands, hands))
                if there:
                    enough.append(hands)
                    self.is_a_dealing(errands, hands, told)
            least = min(enough, default=None)
            self.assertEqual(fewest_hands(errands), least, errands)
            fewest[least] = fewest.get(least, 0) + 1
        self.assertEqual(set(fewest), {None, 1, 2, 3, 4})
        self.assertGreater(min(fewest.values()), 2, fewest)

    def test_one_hand_is_fitting(self):
        for errands, _ in itertools.chain(small_kinds(), made_up(200, 85, most=6, everies=range(30, 61), length=2)):
            fits = fitting(errands) is not None
            self.assertEqual(dealt(errands, 1) is not None, fits)
            self.assertEqual(fewest_hands(errands) == 1, fits)
            if fits:
                self.assertEqual(dealt(errands, 1), [list(range(len(errands)))])

    def test_six_errands(self):
        for errands, _ in made_up(300, 86, most=6, everies=range(8, 30), late=2, length=3, tools=(0, 1, None, None)):
            for hands in (1, 2, 3, 4):
                told = dealt(errands, hands)
                if told is not None:
                    self.is_a_dealing(errands, hands, told)
                    self.assertLessEqual(fewest_hands(errands), hands)
                else:
                    self.assertTrue(fewest_hands(errands) is None or fewest_hands(errands) > hands)


if __name__ == "__main__":
    unittest.main()
