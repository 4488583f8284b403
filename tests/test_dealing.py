"""Ranks that fit, sets that never do, spares, rushes and rooms worked out by hand."""

import inspect
import unittest

from ranksure import dealing
from ranksure.bounds import in_time
from ranksure.dealing import fitting, never, roomiest, rush, spare, why_never


def errand(*parts, every=60, due=60, late=0):
    return (every, due, late, parts)


def plain(work, every=60, due=60, late=0):
    return (every, due, late, ((work, None),))


class ArgumentsTest(unittest.TestCase):
    def test_arguments(self):
        for name in ("fitting", "never", "why_never", "roomiest"):
            self.assertEqual(list(inspect.signature(getattr(dealing, name)).parameters), ["errands"], name)
        for name in ("spare", "rush"):
            call = getattr(dealing, name)
            self.assertEqual(list(inspect.signature(call).parameters), ["errands", "ranks", "number"], name)


class FittingTest(unittest.TestCase):
    def same(self, errands, expected):
        self.assertEqual(fitting(errands), expected)
        self.assertIsNone(never(errands))
        self.assertIsNone(why_never(errands))

    def test_one_errand_just_in_time(self):
        self.same((plain(7, due=7),), (0,))

    def test_one_order_alone(self):
        self.same((plain(2, due=2), plain(3, due=5)), (0, 1))
        self.same((plain(3, due=5), plain(2, due=2)), (1, 0))

    def test_one_order_alone_of_many(self):
        dues = (10, 3, 21, 1, 6, 15)
        self.same(tuple([plain(work, due=due) for work, due in zip((4, 2, 6, 1, 3, 5), dues)]), (3, 1, 4, 0, 5, 2))

    def test_a_hold_that_only_one_place_bears(self):
        # The lowest one's part holds up errand 0 for 4 times, and errand 1 too, which behind it waits for 6.
        lowest = errand((5, 0), (1, None), due=9)
        self.same((errand((1, 0), (1, None), due=6), plain(1, due=8), lowest), (0, 1, 2))

    def test_higher_ones_that_come_more_than_once(self):
        # The higher one can come at 0, 2 and 7, so the lower one is done at 4 + 3 * 2.
        self.same((plain(4, every=20, due=10), plain(2, every=5, due=2, late=3)), (1, 0))
        self.assertIsNone(fitting((plain(4, every=20, due=9), plain(2, every=5, due=2, late=3))))

    def test_any_order(self):
        errands = (plain(1), plain(2), plain(3))
        told = fitting(errands)
        self.assertIs(told.__class__, tuple)
        self.assertEqual(sorted(told), [0, 1, 2])

    def test_ranks_of_which_each_is_just_in_time(self):
        self.same((plain(10, every=30, due=30), plain(10, every=30, due=20), plain(10, every=30, due=10)), (2, 1, 0))


class NeverTest(unittest.TestCase):
    def same(self, errands, expected):
        """What is expected is the list of errands with their longest answers as the lowest of the set."""
        self.assertIsNone(fitting(errands))
        some = [number for number, _ in expected]
        told = never(errands)
        self.assertIs(told.__class__, list)
        self.assertEqual(told, some)
        why = why_never(errands)
        self.assertIs(why.__class__, list)
        self.assertEqual([(number, answer) for number, _, answer in why], expected)
        for one in why:
            self.assertIs(one.__class__, tuple)
            number, ranks, _ = one
            self.assertIs(ranks.__class__, tuple)
            self.assertEqual(sorted(ranks), list(range(len(errands))))
            self.assertEqual(ranks[len(some) - 1], number)
            self.assertEqual(sorted(ranks[:len(some)]), some)

    def test_one_errand_beyond_due(self):
        self.same((plain(8, due=7),), [(0, 8)])

    def test_one_errand_beyond_every_less_late(self):
        self.same((plain(8, every=9, due=7, late=2),), [(0, None)])
        self.same((plain(7, every=9, due=6, late=2),), [(0, 7)])

    def test_two_that_clash_beside_two_that_do_not(self):
        errands = (plain(1), plain(3, due=3), plain(1), plain(4, due=6))
        self.same(errands, [(1, 7), (3, 7)])

    def test_all_of_them(self):
        self.same((plain(3, due=8), plain(3, due=8), plain(3, due=8)), [(0, 9), (1, 9), (2, 9)])

    def test_too_much_work_for_every(self):
        self.same((plain(2, every=4, due=4), plain(2, every=3, due=3)), [(0, None), (1, None)])

    def test_a_lower_one_that_holds_belongs_not_to_the_set(self):
        # Errand 0 is late for the part that errand 1 holds as the lower one, but in time without it.
        errands = (errand((1, 0), (1, None), due=5), errand((5, 0), (1, None)))
        self.same(errands, [(0, 2 + 4)])
        self.assertEqual(why_never(errands), [(0, (0, 1), 6)])
        self.assertIsNotNone(fitting(errands[:1]))

    def test_late_makes_it(self):
        # Without late errand 1 is done ahead of errand 0's second coming, with late it has to wait for that, too.
        self.assertEqual(fitting((plain(3, every=8, due=5), plain(3, every=8, due=6))), (0, 1))
        self.same((plain(3, every=8, due=5, late=3), plain(3, every=8, due=6)), [(0, None), (1, None)])


class SpareTest(unittest.TestCase):
    def same(self, errands, ranks, expected):
        self.assertEqual([spare(errands, ranks, number) for number in range(len(errands))], expected)

    def test_one_errand(self):
        self.same((plain(7, due=7),), (0,), [0])
        self.same((plain(7, due=8),), (0,), [1])
        self.same((errand((5, 0), (4, None), (1, None), due=14),), (0,), [4])

    def test_beyond_twenty(self):
        self.same((plain(20, due=21),), (0,), [1])
        self.same((plain(1),), (0,), [59])
        self.same((errand((20, None), (20, None), (1, None)),), (0,), [19])
        # Works of 1 and 4 in 60 times: each may take what is left of them.
        self.same((plain(1), plain(4)), (0, 1), [55, 55])

    def test_bounded_by_the_lower_one(self):
        # The higher one comes at 0, 10 and 20; the lower one is done ahead of 20, or not by due.
        self.same((plain(2, every=10, due=10), plain(3, every=30, due=20)), (0, 1), [6, 13])
        # By 4 + 8 * 2 the lower one would be done at 20, one more makes it 4 + 9 * 3.
        self.same((plain(2, every=10, due=10), plain(4, every=30, due=20)), (0, 1), [6, 12])

    def test_bounded_by_late(self):
        # Beyond 8 times the higher one comes twice.
        self.same((plain(2, every=10, due=8, late=2), plain(3, every=30, due=8)), (0, 1), [3, 3])
        self.same((plain(2, every=10, due=8, late=2), plain(3, every=30, due=9)), (0, 1), [3, 3])

    def test_with_a_hold(self):
        errands = (errand((2, 0), (1, None), due=10), errand((5, 0), (1, None), due=11))
        self.same(errands, (0, 1), [2, 2])
        self.same(errands, (1, 0), [1, 1])

    def test_ranks_that_do_not_fit(self):
        errands = (plain(2, due=2), plain(3, due=5))
        self.same(errands, (0, 1), [0, 0])
        self.same(errands, (1, 0), [None, None])
        # Errand 0 is in time, errand 1 never is.
        self.same((plain(1), plain(3, due=2)), (0, 1), [None, None])
        self.same((plain(1), plain(3, due=2)), (1, 0), [None, None])

    def test_the_last_part_alone_grows(self):
        # Were the part with the tool to grow, errand 0 would be held up.
        errands = (errand((1, 0), (1, None), due=6), errand((5, 0), (1, None), due=30))
        self.same(errands, (0, 1), [0, 22])


class RushTest(unittest.TestCase):
    def same(self, errands, ranks, expected):
        self.assertEqual([rush(errands, ranks, number) for number in range(len(errands))], expected)

    def test_down_to_due(self):
        self.same((plain(3, every=20, due=12),), (0,), [8])
        self.same((plain(3, every=20, due=20),), (0,), [0])

    def test_down_to_due_and_late(self):
        self.same((plain(3, every=20, due=12, late=5),), (0,), [3])
        self.same((plain(3, every=20, due=15, late=5),), (0,), [0])
        self.same((plain(1, every=40, due=1, late=20),), (0,), [19])

    def test_down_to_two(self):
        self.same((plain(1, every=60, due=1),), (0,), [58])
        self.same((plain(1, every=2, due=1),), (0,), [0])
        self.same((plain(1, every=2, due=2),), (0,), [0])
        self.same((plain(1, every=60, due=1, late=1),), (0,), [58])
        self.same((plain(1, every=60, due=1, late=2),), (0,), [57])

    def test_bounded_by_the_lower_one(self):
        # The lower one is done by 3 + 2 * 2, if the higher one comes just twice in 7 times: with every 4 or more.
        self.same((plain(2, every=20, due=2), plain(3, every=20, due=8)), (0, 1), [16, 12])
        # One more time for the lower one leaves room for a third coming: 3 + 3 * 2 in 9 times, with every 3.
        self.same((plain(2, every=20, due=2), plain(3, every=20, due=9)), (0, 1), [17, 11])

    def test_bounded_by_the_lower_one_with_late(self):
        # By late 3 the second coming is 3 times sooner.
        self.same((plain(2, every=20, due=2, late=3), plain(3, every=20, due=5)), (0, 1), [12, 15])
        self.same((plain(2, every=20, due=2, late=3), plain(3, every=20, due=7)), (0, 1), [15, 13])

    def test_ranks_that_do_not_fit(self):
        errands = (plain(2, every=10, due=2), plain(3, every=10, due=5))
        self.same(errands, (1, 0), [None, None])
        self.same(errands, (0, 1), [5, 5])
        self.same((plain(1), plain(3, due=2)), (0, 1), [None, None])


class RoomiestTest(unittest.TestCase):
    def test_one_errand(self):
        self.assertEqual(roomiest((plain(7, due=7),)), (0, (0,)))
        self.assertEqual(roomiest((plain(7, due=20),)), (13, (0,)))
        self.assertEqual(roomiest((plain(1),)), (59, (0,)))
        self.assertIsNone(roomiest((plain(8, due=7),)))

    def test_ranks_that_fit_with_less_room(self):
        # By (1, 0) the rooms are 6 and 0, by (0, 1) they are 4 and 2.
        errands = (plain(2, due=6), plain(4, due=8))
        self.assertEqual(in_time(errands, (1, 0)), [0, 1])
        self.assertEqual(roomiest(errands), (2, (0, 1)))
        self.assertEqual(roomiest(errands[::-1]), (2, (1, 0)))

    def test_a_room_of_nought(self):
        self.assertEqual(roomiest((plain(2, due=2), plain(3, due=5))), (0, (0, 1)))
        self.assertEqual(roomiest((plain(9, due=40), plain(3, due=3), plain(4, due=30)))[0], 0)

    def test_the_least_room_counts(self):
        # Errand 1 has the least room wherever it stands, and the most ahead of all.
        errands = (plain(5, due=50), plain(5, due=8), plain(5, due=30))
        room, ranks = roomiest(errands)
        self.assertEqual(room, 3)
        self.assertEqual(ranks[0], 1)

    def test_none_where_one_is_never_in_time(self):
        self.assertIsNone(roomiest((plain(1), plain(3, due=2))))

    def test_with_a_hold(self):
        # By (0, 1) errand 0 waits for 4 times: rooms 14 - 7 and 18 - 9; by (1, 0) rooms 14 - 9 and 18 - 7.
        errands = (errand((2, 0), (1, None), due=14), errand((5, 0), (1, None), due=18))
        self.assertEqual(roomiest(errands), (7, (0, 1)))

    def test_a_tuple_of_a_number_and_ranks(self):
        told = roomiest((plain(1), plain(2), plain(3)))
        self.assertIs(told.__class__, tuple)
        self.assertEqual(told[0], 54)
        self.assertIs(told[1].__class__, tuple)
        self.assertEqual(sorted(told[1]), [0, 1, 2])


if __name__ == "__main__":
    unittest.main()
