import copy
import inspect
import unittest

from ranksure.errands import checked, heights, work
from ranksure.errors import NoErrand, NoErrands, NoRanks

PLAIN = ((1, None),)
ERRAND = (10, 8, 2, ((2, 0), (1, None)))
NO_NUMBERS = (True, False, "2", "", None, 2.0, [2], (2,), {}, b"2", object(), float("nan"))
NO_ERRANDS = (None, True, 0, "", "errands", [], (), {}, object(), [ERRAND], (None,), ((),), (1, 2), ("abcd",))


def with_parts(*parts):
    return (20, 10, 0, parts)


def is_refused(errands):
    try:
        checked(errands)
    except NoErrands:
        return True
    return False


class CheckedTest(unittest.TestCase):
    def taken(self, *errands):
        self.assertEqual(checked(errands), errands)

    def refused(self, *errands):
        self.assertTrue(is_refused(errands), errands)

    def test_arguments(self):
        self.assertEqual(list(inspect.signature(checked).parameters), ["errands"])
        self.assertEqual(list(inspect.signature(work).parameters), ["errands", "number"])
        self.assertEqual(list(inspect.signature(heights).parameters), ["errands", "ranks"])

    def test_ordinary(self):
        self.taken(ERRAND, (5, 3, 1, PLAIN), (60, 1, 0, ((4, 3), (2, None), (20, 0), (1, None))))

    def test_how_many(self):
        for many in range(1, 7):
            self.taken(*[ERRAND] * many)
        self.refused()
        self.refused(*[ERRAND] * 7)

    def test_every(self):
        for every in (2, 3, 59, 60):
            self.taken((every, 1, 0, PLAIN))
        for every in (1, 0, -2, 61, 10 ** 30):
            self.refused((every, 1, 0, PLAIN))

    def test_late(self):
        for late in (0, 1, 19, 20):
            self.taken((60, 1, late, PLAIN))
        for late in (-1, 21, 40, 10 ** 30):
            self.refused((60, 1, late, PLAIN))

    def test_late_is_less_than_every(self):
        for every in (2, 5, 20, 21):
            self.taken((every, 1, every - 1, PLAIN))
        for every in (2, 5, 20):
            for due in (-1, 0, 1):
                self.refused((every, due, every, PLAIN))
                self.refused((every, due, every + 1, PLAIN))

    def test_due(self):
        for every, late in ((2, 0), (2, 1), (10, 0), (10, 4), (60, 20)):
            for due in (1, every - late):
                self.taken((every, due, late, PLAIN))
            for due in (-1, 0, every - late + 1, every + 1):
                self.refused((every, due, late, PLAIN))

    def test_how_many_parts(self):
        for many in range(1, 5):
            self.taken(with_parts(*[(1, None)] * many))
        self.refused(with_parts())
        self.refused(with_parts(*[(1, None)] * 5))

    def test_length(self):
        for length in (1, 2, 19, 20):
            self.taken(with_parts((length, None)))
            self.taken(with_parts((length, 1), (1, None)))
        for length in (-1, 0, 21, 10 ** 30):
            self.refused(with_parts((length, None)))
            self.refused(with_parts((length, 1), (1, None)))

    def test_tool(self):
        for tool in (0, 1, 2, 3, None):
            self.taken(with_parts((1, tool), (1, None)))
            self.taken(with_parts((1, None), (2, tool), (1, None)))
        for tool in (-1, 4, 10 ** 30):
            self.refused(with_parts((1, tool), (1, None)))
            self.refused(with_parts((1, None), (2, tool), (1, None)))

    def test_last_part_is_without_a_tool(self):
        for tool in (0, 1, 2, 3):
            self.refused(with_parts((1, tool)))
            self.refused(with_parts((1, None), (1, tool)))
            self.refused(with_parts((1, None), (1, 2), (1, None), (1, tool)))

    def test_no_number_in_a_number_s_place(self):
        for wrong in NO_NUMBERS:
            self.refused((wrong, 1, 0, PLAIN))
            self.refused((10, wrong, 0, PLAIN))
            self.refused((10, 1, wrong, PLAIN))
            self.refused(with_parts((wrong, None)))
            self.refused(with_parts((1, None), (wrong, 0), (1, None)))
            if wrong is not None:
                self.refused(with_parts((1, wrong), (1, None)))
                self.refused(with_parts((1, wrong)))

    def test_a_list_in_a_tuple_s_place(self):
        self.assertTrue(is_refused([ERRAND]))
        self.refused(list(ERRAND))
        self.refused((10, 8, 2, [(2, 0), (1, None)]))
        self.refused((10, 8, 2, ([2, 0], (1, None))))
        self.refused((10, 8, 2, ((2, 0), [1, None])))

    def test_other_things_in_a_tuple_s_place(self):
        for wrong in (True, False, 0, "ab", "abcd", None, {}, {1: None}, object()):
            self.assertTrue(is_refused(wrong), wrong)
            self.refused(wrong)
            self.refused((10, 8, 2, wrong))
            self.refused((10, 8, 2, (wrong,)))
            self.refused((10, 8, 2, (wrong, (1, None))))

    def test_longer_or_shorter(self):
        self.refused(ERRAND[:3])
        self.refused(ERRAND + (None,))
        self.refused(ERRAND + (PLAIN,))
        self.refused(())
        for part in ((), (1,), (None,), (1, None, None)):
            self.refused(with_parts(part))
            self.refused(with_parts(part, (1, None)))

    def test_one_wrong_errand_is_enough(self):
        for place in range(6):
            errands = [ERRAND] * 6
            errands[place] = (10, 11, 0, PLAIN)
            self.refused(*errands)

    def test_work_beyond_every_is_no_fault(self):
        self.taken((2, 1, 0, ((20, 0), (20, 1), (20, 2), (20, None))))


class WorkTest(unittest.TestCase):
    ERRANDS = (ERRAND, with_parts((7, None)), with_parts((20, 0), (20, 1), (20, 2), (20, None)))

    def test_sum_of_lengths(self):
        self.assertEqual([work(self.ERRANDS, number) for number in range(3)], [3, 7, 80])

    def test_no_errand(self):
        for number in (-1, -3, 3, 10 ** 30) + NO_NUMBERS:
            with self.assertRaises(NoErrand):
                work(self.ERRANDS, number)

    def test_true_is_not_one_and_false_not_nought(self):
        for number in (True, False):
            with self.assertRaises(NoErrand):
                work((ERRAND, ERRAND), number)

    def test_no_errands_goes_ahead(self):
        for errands in NO_ERRANDS:
            for number in (0, -1, None, "0"):
                with self.assertRaises(NoErrands):
                    work(errands, number)


class HeightsTest(unittest.TestCase):
    # Tool 0 is at no errand, tool 1 at one, tool 2 at two, tool 3 at all but one.
    ERRANDS = (
        with_parts((1, 1), (1, 3), (1, None)),
        with_parts((1, 2), (1, None), (1, 3), (1, None)),
        with_parts((1, 2), (1, 2), (1, 3), (1, None)),
        with_parts((1, None)),
    )

    def test_by_ranks(self):
        self.assertEqual(heights(self.ERRANDS, (0, 1, 2, 3)), [None, 0, 1, 0])
        self.assertEqual(heights(self.ERRANDS, (3, 2, 1, 0)), [None, 3, 1, 1])
        self.assertEqual(heights(self.ERRANDS, (2, 3, 0, 1)), [None, 2, 0, 0])
        self.assertEqual(heights(self.ERRANDS, (3, 0, 2, 1)), [None, 1, 2, 1])

    def test_each_tool(self):
        for tool in range(4):
            errands = (with_parts((1, None)), with_parts((1, tool), (1, None)), with_parts((1, tool), (1, None)))
            for ranks, place in (((0, 1, 2), 1), ((0, 2, 1), 1), ((1, 0, 2), 0), ((2, 0, 1), 0)):
                expected = [None] * 4
                expected[tool] = place
                self.assertEqual(heights(errands, ranks), expected)

    def test_no_tools_and_one_errand(self):
        self.assertEqual(heights((with_parts((1, None)),), (0,)), [None] * 4)
        self.assertEqual(heights((with_parts((1, 3), (1, None)),), (0,)), [None, None, None, 0])

    def test_a_new_list_each_time(self):
        told = heights(self.ERRANDS, (0, 1, 2, 3))
        told.append(9)
        self.assertEqual(heights(self.ERRANDS, (0, 1, 2, 3)), [None, 0, 1, 0])

    def test_handed_in_is_unchanged(self):
        errands = copy.deepcopy(self.ERRANDS)
        heights(errands, (3, 2, 1, 0))
        self.assertEqual(errands, self.ERRANDS)

    def test_no_ranks(self):
        errands = (ERRAND, ERRAND, ERRAND)
        wrong = [[0, 1, 2], (0, 1, 1), (0, 0, 0), (0, 1), (), (0, 1, 2, 3), (0, 1, 2, 2), (0, 1, 3), (-1, 0, 1)]
        wrong += [(0, True, 2), (False, 1, 2), (0, 1, None), (0, 1, "2"), (0, 1, 2.0), (0, [1], 2), (0, {}, 2)]
        wrong += [None, True, 0, "012", "", {}, {0: 0, 1: 1, 2: 2}, range(3), object()]
        for ranks in wrong:
            with self.assertRaises(NoRanks, msg=repr(ranks)):
                heights(errands, ranks)

    def test_one_true_in_the_place_of_one(self):
        with self.assertRaises(NoRanks):
            heights((ERRAND, ERRAND), (0, True))
        with self.assertRaises(NoRanks):
            heights((ERRAND,), (False,))

    def test_no_errands_goes_ahead(self):
        for errands in NO_ERRANDS:
            for ranks in ((0,), None, [0], (5, 5)):
                with self.assertRaises(NoErrands):
                    heights(errands, ranks)


if __name__ == "__main__":
    unittest.main()
