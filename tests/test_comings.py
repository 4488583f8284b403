import inspect
import unittest

from ranksure.errors import NoComings, NoErrands
from ranksure.runs import checked_comings

PARTS = ((1, None),)
EVERY_10_LATE_3 = (10, 5, 3, PARTS)
EVERY_10 = (10, 5, 0, PARTS)
EVERY_2 = (2, 1, 0, PARTS)


class CheckedComingsTest(unittest.TestCase):
    def taken(self, errand, row):
        self.assertEqual(checked_comings((errand,), [list(row)]), [list(row)])

    def refused(self, errands, comings):
        with self.assertRaises(NoComings, msg=repr(comings)):
            checked_comings(errands, comings)

    def test_arguments(self):
        self.assertEqual(list(inspect.signature(checked_comings).parameters), ["errands", "comings"])

    def test_ordinary(self):
        errands = (EVERY_10, EVERY_10_LATE_3, EVERY_2)
        comings = [[0, 10, 25], [], [3]]
        self.assertEqual(checked_comings(errands, comings), comings)

    def test_without_late(self):
        self.taken(EVERY_10, [0, 10, 20, 30])
        self.taken(EVERY_10, [7, 17, 28, 38])
        for row in ([0, 9], [0, 10, 19], [0, 15, 24], [0, 10, 20, 29]):
            self.refused((EVERY_10,), [row])

    def test_just_by_late(self):
        for row in ([0, 7], [3, 10], [0, 7, 17], [0, 10, 17], [0, 10, 20, 27], [0, 7, 20, 27], [0, 7, 21, 28]):
            self.taken(EVERY_10_LATE_3, row)

    def test_one_time_too_soon_for_late(self):
        for row in ([0, 6], [3, 9], [0, 7, 16], [0, 10, 16], [0, 10, 20, 26], [0, 7, 20, 26], [0, 7, 21, 27]):
            self.refused((EVERY_10_LATE_3,), [row])

    def test_late_is_not_there_again_for_each_job(self):
        for row in ([0, 7, 14], [0, 7, 14, 21], [0, 8, 16], [0, 9, 18, 26]):
            self.refused((EVERY_10_LATE_3,), [row])
        for row in ([0, 9, 18, 27], [0, 8, 17, 27, 37], [0, 7, 17, 27, 37]):
            self.taken(EVERY_10_LATE_3, row)

    def test_a_job_may_be_less_late_than_it_could(self):
        self.taken(EVERY_10_LATE_3, [0, 12, 19, 29])
        self.taken(EVERY_10_LATE_3, [0, 40, 47, 57])
        self.refused((EVERY_10_LATE_3,), [[0, 40, 46]])
        self.refused((EVERY_10_LATE_3,), [[0, 40, 47, 56]])

    def test_moment_below_nought(self):
        self.taken(EVERY_10_LATE_3, [0, 7])
        self.taken(EVERY_10_LATE_3, [1, 8])
        self.taken((21, 1, 20, PARTS), [0, 1, 22])
        self.refused(((21, 1, 20, PARTS),), [[0, 1, 21]])

    def test_rows_that_do_not_rise(self):
        for errand in (EVERY_10, EVERY_10_LATE_3, (60, 1, 20, PARTS), (2, 1, 1, PARTS)):
            for row in ([5, 5], [10, 0], [100, 50], [0, 100, 100], [0, 100, 40], [0, 0]):
                self.refused((errand,), [row])

    def test_how_many(self):
        self.taken(EVERY_2, [])
        self.taken(EVERY_2, range(0, 120, 2))
        self.refused((EVERY_2,), [list(range(0, 122, 2))])
        self.refused((EVERY_2, EVERY_2), [[], list(range(0, 122, 2))])

    def test_bounds_of_numbers(self):
        self.taken(EVERY_10_LATE_3, [0, 9999])
        for row in ([-1], [-1, 20], [10000], [0, 10000], [0, 10 ** 30]):
            self.refused((EVERY_10_LATE_3,), [row])

    def test_no_numbers(self):
        for wrong in (True, False, "5", "", None, 5.0, [5], (5,), {}, object(), float("nan")):
            self.refused((EVERY_10,), [[wrong]])
            self.refused((EVERY_10,), [[wrong, 50]])
            self.refused((EVERY_10,), [[0, 20, wrong]])

    def test_no_lists(self):
        self.refused((EVERY_10,), ([0],))
        self.refused((EVERY_10,), [(0,)])
        self.refused((EVERY_10, EVERY_10), [[0], (0,)])
        self.refused((EVERY_10, EVERY_10), ([0], [0]))
        for wrong in (None, True, 0, "", "0", {}, {0: [0]}, range(1), object()):
            self.refused((EVERY_10,), wrong)
            self.refused((EVERY_10,), [wrong])

    def test_a_row_more_or_fewer(self):
        self.refused((EVERY_10,), [])
        self.refused((EVERY_10,), [[], []])
        self.refused((EVERY_10, EVERY_10), [[0]])
        self.refused((EVERY_10, EVERY_10), [[0], [], []])

    def test_each_row_by_its_own_errand(self):
        self.assertEqual(checked_comings((EVERY_10, EVERY_2), [[0, 10], [0, 2]]), [[0, 10], [0, 2]])
        self.refused((EVERY_2, EVERY_10), [[0, 10], [0, 2]])
        self.refused((EVERY_10, EVERY_2), [[0, 2], [0, 10]])

    def test_told_are_new_lists(self):
        comings = [[0, 10], []]
        told = checked_comings((EVERY_10, EVERY_10), comings)
        told[0].append(99)
        told[1].append(99)
        told.append([99])
        self.assertEqual(comings, [[0, 10], []])
        again = checked_comings((EVERY_10, EVERY_10), comings)
        self.assertEqual(again, [[0, 10], []])
        comings[0].append(20)
        self.assertEqual(again, [[0, 10], []])

    def test_one_list_handed_in_twice_is_told_as_two(self):
        row = [0]
        told = checked_comings((EVERY_10, EVERY_10), [row, row])
        told[0].append(99)
        self.assertEqual(told[1], [0])

    def test_no_errands_goes_ahead(self):
        for errands in (None, (), [EVERY_10], (EVERY_10,) * 7, ((10, 11, 0, PARTS),), "x", True):
            for comings in ([[0]], None, [], [[-1]]):
                with self.assertRaises(NoErrands):
                    checked_comings(errands, comings)


if __name__ == "__main__":
    unittest.main()
