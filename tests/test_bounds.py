"""Holds, longest answers, levels and stretches worked out by hand."""

import inspect
import unittest

from ranksure import bounds
from ranksure.bounds import hold, hold_asked, in_time, levels, longest, longest_asked, stretch


def errand(*parts, every=60, due=1, late=0):
    return (every, due, late, parts)


def plain(work, every, due=1, late=0):
    return (every, due, late, ((work, None),))


class ArgumentsTest(unittest.TestCase):
    def test_arguments(self):
        for name in ("hold", "hold_asked", "longest", "longest_asked", "levels"):
            call = getattr(bounds, name)
            self.assertEqual(list(inspect.signature(call).parameters), ["errands", "ranks", "number"], name)
        self.assertEqual(list(inspect.signature(in_time).parameters), ["errands", "ranks"])
        self.assertEqual(list(inspect.signature(stretch).parameters), ["errands"])


class HoldTest(unittest.TestCase):
    def same(self, errands, ranks, expected):
        self.assertEqual([hold(errands, ranks, number) for number in range(len(errands))], expected)

    def same_asked(self, errands, ranks, expected):
        self.assertEqual([hold_asked(errands, ranks, number) for number in range(len(errands))], expected)

    def same_both(self, errands, ranks, expected):
        self.same(errands, ranks, expected)
        self.same_asked(errands, ranks, expected)

    def test_no_lower_errand(self):
        self.same_both((errand((5, 0), (4, 1), (1, None)),), (0,), [0])
        errands = (errand((5, 0), (1, None)), errand((4, 0), (1, None)))
        self.assertEqual(hold(errands, (0, 1), 1), 0)
        self.assertEqual(hold(errands, (1, 0), 0), 0)
        self.assertEqual(hold_asked(errands, (0, 1), 1), 0)

    def test_lower_errands_without_tools(self):
        errands = (errand((5, 0), (1, None)), errand((20, None)), errand((7, None), (9, None)))
        self.same_both(errands, (0, 1, 2), [0, 0, 0])

    def test_height_is_the_errand_s_rank(self):
        errands = (errand((2, 1), (1, None)), errand((6, 1), (9, None)))
        self.same_both(errands, (0, 1), [5, 0])
        self.same_both(errands, (1, 0), [0, 1])

    def test_height_is_higher_than_the_errand_s_rank(self):
        errands = (errand((2, 1), (1, None)), errand((3, None)), errand((3, 0), (1, None)), errand((6, 1), (9, None)))
        self.same_both(errands, (0, 1, 2, 3), [5, 5, 5, 0])
        self.same_both(errands, (1, 0, 2, 3), [5, 0, 5, 0])

    def test_height_is_lower_than_the_errand_s_rank(self):
        errands = (errand((3, None)), errand((2, 1), (1, None)), errand((6, 1), (9, None)))
        self.same_both(errands, (0, 1, 2), [0, 5, 0])
        errands = (errand((3, 0), (1, None)), errand((2, 1), (1, None)), errand((6, 1), (9, None)))
        self.same_both(errands, (0, 1, 2), [0, 5, 0])

    def test_a_tool_that_one_errand_has_alone(self):
        errands = (errand((3, None)), errand((9, 2), (1, None)))
        self.same_both(errands, (0, 1), [0, 0])

    def test_a_length_of_1(self):
        errands = (errand((1, 0), (1, None)), errand((1, 0), (1, None)), errand((1, None), (1, 0), (1, None)))
        self.same_both(errands, (0, 1, 2), [0, 0, 0])

    def test_several_parts_in_one_errand(self):
        errands = (errand((1, 0), (1, 1), (1, None)), errand((4, 0), (7, 1), (5, 0), (1, None)))
        self.same_both(errands, (0, 1), [6, 0])
        errands = (errand((1, 0), (1, None)), errand((4, 0), (7, 1), (5, 0), (1, None)))
        self.same_both(errands, (0, 1), [4, 0])
        errands = (errand((1, 1), (1, None)), errand((8, 0), (2, 1), (9, 0), (1, None)))
        self.same_both(errands, (0, 1), [1, 0])

    def test_several_parts_in_several_errands(self):
        errands = (
            errand((1, 0), (1, 1), (1, None)),
            errand((3, 0), (8, 2), (1, None)),
            errand((5, 1), (1, None)),
            errand((4, 0), (9, 3), (6, 2), (1, None)),
        )
        self.same(errands, (0, 1, 2, 3), [4, 5, 5, 0])
        self.same_asked(errands, (0, 1, 2, 3), [7, 9, 5, 0])
        self.same(errands, (3, 2, 1, 0), [0, 0, 7, 7])

    def test_a_part_without_a_tool_does_not_count(self):
        errands = (errand((1, 0), (1, None)), errand((20, None), (3, 0), (20, None)))
        self.same_both(errands, (0, 1), [2, 0])

    def test_the_longest_part(self):
        errands = (errand((1, 3), (1, None)), errand((20, 3), (1, None)))
        self.same_both(errands, (0, 1), [19, 0])

    def test_by_ranks_and_not_by_numbers(self):
        errands = (errand((9, 0), (1, None)), errand((2, 0), (1, None)), errand((5, 0), (1, None)))
        self.same(errands, (2, 0, 1), [1, 0, 8])
        self.same(errands, (1, 2, 0), [0, 8, 8])


class HoldAskedTest(unittest.TestCase):
    TOP = errand((1, 0), (1, 1), (1, 2), (1, None))

    def same(self, lower, expected):
        errands = (self.TOP,) + lower
        self.assertEqual(hold_asked(errands, tuple(range(len(errands))), 0), expected)

    def test_the_sum_over_errands_is_the_lesser_one(self):
        self.same((errand((5, 0), (4, 1), (1, None)),), 4)
        self.same((errand((5, 0), (4, 1), (1, None)), errand((6, 2), (1, None))), 9)

    def test_the_sum_over_tools_is_the_lesser_one(self):
        self.same((errand((5, 0), (1, None)), errand((4, 0), (1, None))), 4)
        self.same((errand((5, 0), (1, None)), errand((4, 0), (1, None)), errand((6, 2), (1, None))), 9)

    def test_both_are_alike(self):
        self.same((errand((5, 0), (1, None)), errand((4, 1), (1, None))), 7)
        self.same((errand((5, 0), (5, 1), (1, None)), errand((4, 0), (5, 1), (1, None))), 8)
        self.same((errand((3, 1), (1, None)),), 2)

    def test_the_greatest_for_each(self):
        self.same((errand((3, 0), (7, 0), (5, 0), (1, None)), errand((4, 1), (6, 1), (2, 1), (1, None))), 11)

    def test_parts_that_can_not_be_waited_for_are_not_in_the_sums(self):
        self.same((errand((5, 0), (9, 3), (1, None)), errand((8, 3), (4, 1), (1, None))), 7)
        self.same((errand((9, 3), (1, None)), errand((8, 3), (1, None))), 0)

    def test_all_four_tools_and_five_lower_errands(self):
        top = errand((1, 0), (1, 1), (1, 2), (1, None))
        lower = tuple([errand((length, 0), (length + 1, 1), (length + 2, 2), (1, None)) for length in range(2, 7)])
        errands = (top,) + lower
        self.assertEqual(hold_asked(errands, tuple(range(6)), 0), 5 + 6 + 7)
        self.assertEqual(hold(errands, tuple(range(6)), 0), 7)


class LongestTest(unittest.TestCase):
    def same(self, errands, ranks, expected):
        self.assertEqual([longest(errands, ranks, number) for number in range(len(errands))], expected)

    def same_asked(self, errands, ranks, expected):
        self.assertEqual([longest_asked(errands, ranks, number) for number in range(len(errands))], expected)

    def test_one_errand(self):
        for call in (longest, longest_asked):
            self.assertEqual(call((plain(3, 10),), (0,), 0), 3)
            self.assertEqual(call((errand((3, 0), (2, 1), (1, None)),), (0,), 0), 6)
            self.assertEqual(call((plain(1, 2, late=1),), (0,), 0), 1)

    def test_higher_errands(self):
        errands = (plain(2, 10), plain(4, 15), plain(3, 40))
        self.same(errands, (0, 1, 2), [2, 6, 9])
        self.same(errands, (2, 1, 0), [9, 7, 3])
        self.same_asked(errands, (2, 1, 0), [9, 7, 3])

    def test_higher_errands_come_again(self):
        errands = (plain(2, 4), plain(1, 5), plain(3, 30))
        # The needs are 2 + 1 + 3 for 1, 4 + 2 + 3 for 6, 6 + 2 + 3 for 9, 6 + 3 + 3 for 11, and the same for 12.
        self.same(errands, (0, 1, 2), [2, 3, 12])

    def test_a_time_at_which_a_higher_one_just_comes(self):
        self.same((plain(2, 4), plain(2, 20)), (0, 1), [2, 4])
        self.same((plain(2, 4), plain(3, 20)), (0, 1), [2, 7])

    def test_higher_errands_that_are_late(self):
        errands = (plain(2, 10, late=3), plain(4, 15), plain(3, 40))
        self.same(errands, (0, 1, 2), [2, 6, 11])
        self.same((plain(2, 10, late=6), plain(2, 15)), (0, 1), [2, 4])
        self.same((plain(2, 10, late=7), plain(2, 15)), (0, 1), [2, 6])

    def test_its_own_late_only_bounds_it(self):
        self.same((plain(2, 10), plain(4, 16, late=10)), (0, 1), [2, 6])
        self.same((plain(2, 10), plain(4, 16, late=11)), (0, 1), [2, None])

    def test_just_every_less_late_and_one_more(self):
        self.same((plain(10, 10),), (0,), [10])
        self.same((plain(11, 10),), (0,), [None])
        self.same((plain(7, 10, late=3),), (0,), [7])
        self.same((plain(8, 10, late=3),), (0,), [None])
        self.same((plain(2, 10), plain(4, 6)), (0, 1), [2, 6])
        self.same((plain(2, 10), plain(5, 6)), (0, 1), [2, None])

    def test_no_t_at_all(self):
        self.same((plain(5, 5), plain(1, 60)), (0, 1), [5, None])
        self.same((plain(9, 5), plain(1, 60)), (0, 1), [None, None])
        self.same((plain(20, 2), plain(20, 2), plain(20, 2)), (2, 1, 0), [None, None, None])

    def test_a_higher_one_that_is_late_itself_still_counts(self):
        self.same((plain(6, 5), plain(1, 60)), (1, 0), [None, 1])
        self.same((plain(16, 20, late=5), plain(2, 60)), (0, 1), [None, 34])

    def test_the_hold_counts_once(self):
        errands = (errand((1, 0), (1, None), every=10), plain(2, 20), errand((4, 0), (1, None)))
        self.same(errands, (0, 1, 2), [5, 7, 9])
        self.same_asked(errands, (0, 1, 2), [5, 7, 9])

    def test_the_hold_brings_a_higher_one_again(self):
        errands = (errand((1, 0), (1, None), every=6), plain(2, 20), errand((4, 0), (1, None)))
        self.same(errands, (0, 1, 2), [5, 9, 11])

    def test_the_hold_is_too_much(self):
        errands = (errand((1, 0), (1, None), every=6, late=1), errand((4, 0), (1, None)))
        self.same(errands, (0, 1), [5, 9])
        errands = (errand((1, 0), (1, None), every=6, late=2), errand((4, 0), (1, None)))
        self.same(errands, (0, 1), [None, 9])

    def test_asked_holds_more(self):
        errands = (
            errand((1, 0), (1, 1), (1, None), every=20),
            errand((4, 0), (1, None)),
            errand((3, 1), (1, None)),
        )
        self.same(errands, (0, 1, 2), [6, 10, 12])
        self.same_asked(errands, (0, 1, 2), [8, 10, 12])

    def test_asked_holds_too_much(self):
        for every, expected in ((8, 8), (7, None), (6, None)):
            errands = (
                errand((1, 0), (1, 1), (1, None), every=every),
                errand((4, 0), (1, None)),
                errand((3, 1), (1, None)),
            )
            self.assertEqual(longest(errands, (0, 1, 2), 0), 6)
            self.assertEqual(longest_asked(errands, (0, 1, 2), 0), expected)

    def test_the_greatest_numbers(self):
        parts = ((20, 0), (20, 1), (20, 2), (20, None))
        errands = tuple([(60, 40, 20, parts)] * 6)
        self.same(errands, tuple(range(6)), [None] * 6)
        errands = ((60, 60, 0, ((20, 0), (20, None))), (60, 60, 0, ((20, 0), (20, None))))
        self.same(errands, (0, 1), [59, None])


class InTimeTest(unittest.TestCase):
    def test_due_just_reached_and_just_missed(self):
        for dues, expected in (
            ((2, 6, 9), [0, 1, 2]),
            ((1, 6, 9), [1, 2]),
            ((2, 5, 9), [0, 2]),
            ((2, 6, 8), [0, 1]),
            ((1, 5, 8), []),
            ((3, 7, 10), [0, 1, 2]),
        ):
            errands = (plain(2, 10, dues[0]), plain(4, 15, dues[1]), plain(3, 40, dues[2]))
            self.assertEqual(in_time(errands, (0, 1, 2)), expected, dues)

    def test_rising_whatever_the_ranks(self):
        errands = (plain(1, 50, 50), plain(1, 50, 50), plain(1, 50, 1), plain(1, 50, 50))
        self.assertEqual(in_time(errands, (3, 1, 0, 2)), [0, 1, 3])
        self.assertEqual(in_time(errands, (2, 3, 1, 0)), [0, 1, 2, 3])

    def test_none_is_not_in_time(self):
        self.assertEqual(in_time((plain(5, 5, 5), plain(1, 60, 60)), (0, 1)), [0])
        self.assertEqual(in_time((plain(9, 5, 5),), (0,)), [])

    def test_by_high_and_not_by_asked(self):
        errands = (
            errand((1, 0), (1, 1), (1, None), every=20, due=6),
            errand((4, 0), (1, None), due=10),
            errand((3, 1), (1, None), due=12),
        )
        self.assertEqual(longest_asked(errands, (0, 1, 2), 0), 8)
        self.assertEqual(in_time(errands, (0, 1, 2)), [0, 1, 2])

    def test_the_hold_makes_one_late(self):
        for length, expected in ((4, [0, 1]), (5, [1])):
            errands = (errand((1, 0), (1, None), due=5), errand((length, 0), (1, None), due=60))
            self.assertEqual(in_time(errands, (0, 1)), expected)


class LevelsTest(unittest.TestCase):
    def test_one_level_alone(self):
        self.assertEqual(levels((plain(1, 2),), (0,), 0), [1])
        self.assertEqual(levels((plain(3, 10),), (0,), 0), [3])
        self.assertEqual(levels((plain(2, 10), plain(4, 15)), (0, 1), 1), [6])

    def test_several(self):
        errands = (plain(2, 4), plain(1, 5), plain(3, 30))
        self.assertEqual(levels(errands, (0, 1, 2), 2), [6, 9, 11, 12])
        self.assertEqual(levels(errands, (0, 1, 2), 1), [3])

    def test_with_a_hold(self):
        errands = (errand((1, 0), (1, None), every=6), plain(2, 20), errand((4, 0), (1, None)))
        self.assertEqual(levels(errands, (0, 1, 2), 0), [5])
        self.assertEqual(levels(errands, (0, 1, 2), 1), [7, 9])
        self.assertEqual(levels(errands, (0, 1, 2), 2), [9, 11])

    def test_with_late(self):
        errands = (plain(2, 10, late=3), plain(4, 15), plain(3, 40))
        self.assertEqual(levels(errands, (0, 1, 2), 2), [9, 11])

    def test_none(self):
        self.assertIsNone(levels((plain(11, 10),), (0,), 0))
        self.assertIsNone(levels((plain(5, 5), plain(1, 60)), (0, 1), 1))
        self.assertIsNone(levels((plain(2, 10), plain(4, 16, late=11)), (0, 1), 1))

    def test_a_new_list_each_time(self):
        errands = (plain(2, 10), plain(4, 15))
        levels(errands, (0, 1), 1).append(99)
        self.assertEqual(levels(errands, (0, 1), 1), [6])
        in_time(errands, (0, 1)).append(99)
        self.assertEqual(in_time(errands, (0, 1)), [])


class StretchTest(unittest.TestCase):
    def test_one_errand(self):
        self.assertEqual(stretch((plain(1, 2),)), 1)
        self.assertEqual(stretch((plain(2, 5),)), 2)
        self.assertEqual(stretch((plain(4, 5),)), 4)
        self.assertEqual(stretch((errand((2, 0), (1, 1), (2, 0), (3, None), every=9),)), 8)

    def test_late(self):
        self.assertEqual(stretch((plain(2, 5, late=2),)), 2)
        # The second comes just when the first is done.
        self.assertEqual(stretch((plain(2, 5, late=3),)), 4)
        self.assertEqual(stretch((plain(2, 5, late=4),)), 4)
        self.assertEqual(stretch((plain(9, 10, late=9),)), 90)

    def test_several(self):
        self.assertEqual(stretch((plain(2, 10), plain(3, 10))), 5)
        self.assertEqual(stretch((plain(2, 5), plain(3, 10))), 7)
        self.assertEqual(stretch((plain(1, 3), plain(3, 6))), 5)
        # Just when all is done the first comes again, at 4, then the second, at 6, and the first, at 8.
        self.assertEqual(stretch((plain(2, 4), plain(2, 6))), 10)

    def test_works_as_many_as_the_times_or_more(self):
        self.assertIsNone(stretch((plain(5, 5),)))
        self.assertIsNone(stretch((plain(6, 5),)))
        self.assertIsNone(stretch((plain(2, 4), plain(3, 6))))
        self.assertIsNone(stretch((plain(2, 4), plain(4, 6))))
        self.assertIsNone(stretch((errand((20, 0), (20, 1), (20, 2), (20, None), every=2),) * 6))

    def test_just_9999_and_one_more(self):
        errands = (errand((20, 0), (3, None), every=32, late=16), plain(7, 25))
        self.assertEqual(stretch(errands), 9999)
        errands = (plain(10, 32, late=15), plain(15, 41, late=3), plain(4, 22, late=9), plain(5, 36))
        self.assertIsNone(stretch(errands))

    def test_due_does_not_matter(self):
        self.assertEqual([stretch((plain(2, 4, due), plain(2, 6))) for due in (1, 2, 3, 4)], [10] * 4)


if __name__ == "__main__":
    unittest.main()
