import copy
import inspect
import itertools
import unittest

from ranksure.errors import NoComings, NoErrands, NoRanks
from ranksure.runs import answers, run

WORDS = ("high", "asked", "none")


def errand(*parts):
    return (60, 60, 0, parts)


def spelled(told):
    # A job is written as a letter for its errand, and its number behind it where that is not 0.
    def sign(done):
        if done is None:
            return "."
        number, job = done
        return "abcdef"[number] + (str(job) if job else "")
    return " ".join([sign(done) for done in told])


class RunCase(unittest.TestCase):
    def same(self, errands, ranks, comings, expected, told_answers, words=WORDS):
        for word in words:
            handed = (copy.deepcopy(errands), copy.deepcopy(ranks), copy.deepcopy(comings))
            told = run(*handed, word)
            self.assertIsInstance(told, list)
            self.assertEqual(spelled(told), expected, word)
            for done in told:
                self.assertTrue(done is None or isinstance(done, tuple))
            self.assertEqual(answers(*handed, word), told_answers, word)
            self.assertEqual(handed, (errands, ranks, comings), word)


class PlainRunTest(RunCase):
    def test_arguments(self):
        names = ["errands", "ranks", "comings", "lending"]
        self.assertEqual(list(inspect.signature(run).parameters), names)
        self.assertEqual(list(inspect.signature(answers).parameters), names)

    def test_the_very_things_told(self):
        told = run((errand((2, None)),), (0,), [[1]], "high")
        self.assertEqual(told, [None, (0, 0), (0, 0)])

    def test_no_comings_at_all(self):
        self.same((errand((2, None)),), (0,), [[]], "", [[]])
        self.same((errand((2, 0), (1, None)), errand((1, None))), (1, 0), [[], []], "", [[], []])

    def test_an_errand_that_does_not_come(self):
        errands = (errand((2, 0), (1, None)), errand((1, 0), (2, None)))
        self.same(errands, (0, 1), [[], [0]], "b b b", [[], [3]])
        self.same(errands, (0, 1), [[1], []], ". a a a", [[3], []])

    def test_times_at_which_no_job_is_there(self):
        errands = ((5, 5, 0, ((2, None),)), (8, 8, 0, ((1, None),)))
        self.same(errands, (0, 1), [[3, 8], [9]], ". . . a a . . . a1 a1 b", [[2, 2], [2]])
        self.same(errands, (1, 0), [[3, 8], [9]], ". . . a a . . . a1 b a1", [[2, 3], [1]])

    def test_the_latest_coming(self):
        for word in WORDS:
            told = run((errand((3, None)),), (0,), [[9999]], word)
            self.assertEqual(told, [None] * 9999 + [(0, 0)] * 3)

    def test_the_higher_goes_ahead(self):
        errands = (errand((2, None)), errand((3, None)), errand((1, None)))
        self.same(errands, (0, 1, 2), [[0], [0], [0]], "a a b b b c", [[2], [5], [6]])
        self.same(errands, (2, 0, 1), [[0], [0], [0]], "c a a b b b", [[3], [6], [1]])
        self.same(errands, (0, 1, 2), [[3], [1], [0]], "c b b a a b", [[2], [5], [1]])

    def test_a_later_job_waits_for_earlier_ones(self):
        errands = ((5, 2, 3, ((1, None), (2, 1), (1, None))), errand((1, None)))
        self.same(errands, (0, 1), [[0, 2, 7], []], "a a a a a1 a1 a1 a1 a2 a2 a2 a2", [[4, 6, 5], []])
        self.same(errands, (0, 1), [[0, 2], [1]], "a a a a a1 a1 a1 a1 b", [[4, 6], [8]])
        self.same(errands, (1, 0), [[0, 2], [2]], "a a b a a a1 a1 a1 a1", [[5, 7], [1]])

    def test_jobs_that_fall_far_behind(self):
        errands = ((2, 2, 0, ((2, 0), (3, None))),)
        self.same(errands, (0,), [[0, 2, 4]], "a a a a a a1 a1 a1 a1 a1 a2 a2 a2 a2 a2", [[5, 8, 11]])

    def test_most_comings(self):
        errands = ((2, 1, 0, ((1, None),)),)
        for word in WORDS:
            told = run(errands, (0,), [list(range(0, 120, 2))], word)
            expected = []
            for job in range(60):
                expected += [(0, job), None]
            self.assertEqual(told, expected[:-1])
            self.assertEqual(answers(errands, (0,), [list(range(0, 120, 2))], word), [[1] * 60])


class ToolRunTest(RunCase):
    THREE = (errand((1, None), (1, 0), (1, None)), errand((2, None)), errand((3, 0), (1, None)))
    COMINGS = [[1], [2], [0]]

    def test_three_words_three_runs(self):
        ranks = (0, 1, 2)
        self.same(self.THREE, ranks, self.COMINGS, "c c c a a a b b c", [[5], [6], [9]], ["high"])
        self.same(self.THREE, ranks, self.COMINGS, "c a c c a a b b c", [[5], [6], [9]], ["asked"])
        self.same(self.THREE, ranks, self.COMINGS, "c a b b c c a a c", [[7], [2], [9]], ["none"])

    def test_errands_numbered_otherwise(self):
        for order in itertools.permutations(range(3)):
            errands = tuple([self.THREE[number] for number in order])
            comings = [self.COMINGS[number] for number in order]
            ranks = tuple([order.index(number) for number in range(3)])
            for word in WORDS:
                plain = run(self.THREE, (0, 1, 2), self.COMINGS, word)
                told = run(errands, ranks, comings, word)
                self.assertEqual([(order[number], job) for number, job in told], plain)

    def test_nobody_higher_has_the_tool(self):
        errands = (errand((1, None)), errand((3, 2), (1, None)))
        self.same(errands, (0, 1), [[1], [0]], "b a b b b", [[1], [5]])

    def test_two_of_one_height_of_which_one_holds(self):
        errands = (errand((2, None)), errand((1, None), (1, 1), (1, None)), errand((3, 1), (1, None)))
        comings = [[2], [1], [0]]
        self.same(errands, (0, 1, 2), comings, "c c a a c b b b c", [[2], [7], [9]], ["high"])
        self.same(errands, (0, 1, 2), comings, "c b a a c c b b c", [[2], [7], [9]], ["asked", "none"])

    def test_the_one_that_holds_goes_first_whatever_its_number(self):
        low = errand((3, 1), (1, None))
        top = errand((1, None), (1, 1), (1, None))
        self.same((low, top), (1, 0), [[0], [1]], "a a a b b b a", [[7], [5]], ["high"])
        self.same((top, low), (0, 1), [[1], [0]], "b b b a a a b", [[5], [7]], ["high"])

    def test_a_lower_one_keeps_the_middle_away_by_high_alone(self):
        errands = (errand((1, 0), (1, None)), errand((2, None)), errand((3, 0), (1, None)))
        self.same(errands, (0, 1, 2), [[], [1], [0]], "c c c b b c", [[], [4], [6]], ["high"])
        self.same(errands, (0, 1, 2), [[], [1], [0]], "c b b c c c", [[], [2], [6]], ["asked", "none"])

    def test_waiting_for_one_and_then_for_the_next(self):
        errands = (
            errand((1, 0), (1, 1), (1, None)),
            errand((2, None)),
            errand((2, 0), (1, None)),
            errand((2, 1), (1, None)),
        )
        comings = [[2], [2], [1], [0]]
        ranks = (0, 1, 2, 3)
        self.same(errands, ranks, comings, "d d a a a b b c c c d", [[3], [5], [9], [11]], ["high"])
        self.same(errands, ranks, comings, "d c c a d a a b b c d", [[5], [7], [9], [11]], ["asked"])
        self.same(errands, ranks, comings, "d c b b c a c d a a d", [[8], [2], [6], [11]], ["none"])

    def test_several_wait_for_one(self):
        errands = (
            errand((1, 0), (1, None)),
            errand((2, None)),
            errand((1, 0), (1, None)),
            errand((3, 0), (1, None)),
        )
        comings = [[3], [2], [1], [0]]
        ranks = (0, 1, 2, 3)
        self.same(errands, ranks, comings, "d d d a a b b c c d", [[2], [5], [8], [10]], ["high"])
        self.same(errands, ranks, comings, "d d b d a a b c c d", [[3], [5], [8], [10]], ["asked"])
        self.same(errands, ranks, comings, "d d b b d a a c c d", [[4], [2], [8], [10]], ["none"])

    def test_the_highest_who_waits_came_first(self):
        errands = (errand((1, 0), (1, None)), errand((1, None)), errand((1, 0), (1, None)), errand((4, 0), (1, None)))
        self.same(errands, (0, 1, 2, 3), [[1], [2], [2], [0]], "d d d d a a b c c d", [[5], [5], [7], [10]],
                  ["high", "asked"])
        self.same(errands, (0, 1, 2, 3), [[1], [2], [2], [0]], "d d b d d a a c c d", [[6], [1], [7], [10]], ["none"])

    def test_a_higher_one_that_holds_keeps_its_rank(self):
        errands = (errand((3, 0), (1, None)), errand((2, None)), errand((1, 0), (1, None)))
        self.same(errands, (0, 1, 2), [[0], [1], [1]], "a a a a b b c c", [[4], [5], [7]])

    def test_a_later_job_behind_one_that_waits(self):
        errands = ((4, 1, 3, ((1, 0), (1, None))), errand((3, None)), errand((4, 0), (1, None)))
        comings = [[1, 2], [2], [0]]
        self.same(errands, (0, 1, 2), comings, "c c c c a a a1 a1 b b b c", [[5, 6], [9], [12]], ["high", "asked"])
        self.same(errands, (0, 1, 2), comings, "c c b b b c c a a a1 a1 c", [[8, 9], [3], [12]], ["none"])

    def test_a_tool_is_free_between_two_parts_with_it(self):
        errands = (errand((1, 0), (1, None)), errand((2, 0), (2, 0), (1, None)))
        self.same(errands, (0, 1), [[1], [0]], "b b a a b b b", [[3], [7]])

    def test_a_tool_is_not_held_between_two_parts_with_others(self):
        errands = (errand((1, 0), (1, None)), errand((2, 0), (2, 1), (2, None)))
        self.same(errands, (0, 1), [[1], [0]], "b b a a b b b b", [[3], [8]])

    def test_a_part_of_one_time_is_never_held(self):
        errands = (errand((1, 0), (1, None)), errand((1, 0), (2, None)))
        self.same(errands, (0, 1), [[1], [0]], "b a a b b", [[2], [5]])

    def test_a_tool_not_yet_begun_is_not_held(self):
        errands = (errand((1, 0), (1, None)), errand((2, None), (2, 0), (1, None)))
        self.same(errands, (0, 1), [[1], [0]], "b a a b b b b", [[2], [7]])
        self.same(errands, (0, 1), [[2], [0]], "b b a a b b b", [[2], [7]])

    def test_another_tool_is_not_waited_for(self):
        errands = (errand((1, 1), (1, None)), errand((3, 0), (1, None)))
        self.same(errands, (0, 1), [[1], [0]], "b a a b b b", [[2], [6]])

    def test_lower_errand_with_the_higher_one_s_tool_in_its_last_but_one_part(self):
        errands = (errand((2, 3), (1, None)), errand((1, None), (3, 3), (1, None)))
        self.same(errands, (0, 1), [[2], [0]], "b b b b a a a b", [[5], [8]])

    def test_jobs_begin_anew_with_the_first_part(self):
        errands = ((6, 6, 0, ((1, None), (1, 0), (1, None))), (12, 12, 0, ((3, 0), (1, None))))
        comings = [[1, 7, 13], [0, 12]]
        self.same(errands, (0, 1), comings, "b b b a a a b a1 a1 a1 . . b1 b1 b1 a2 a2 a2 b1",
                  [[5, 3, 5], [7, 7]], ["high"])
        self.same(errands, (0, 1), comings, "b a b b a a b a1 a1 a1 . . b1 a2 b1 b1 a2 a2 b1",
                  [[5, 3, 5], [7, 7]], ["asked", "none"])


class KeptApartTest(unittest.TestCase):
    def test_told_are_new_lists(self):
        errands = (errand((1, None)),)
        for word in WORDS:
            run(errands, (0,), [[0]], word).append(None)
            self.assertEqual(run(errands, (0,), [[0]], word), [(0, 0)])
            told = answers(errands, (0,), [[0]], word)
            told[0].append(9)
            told.append([9])
            self.assertEqual(answers(errands, (0,), [[0]], word), [[1]])


class RefusedRunTest(unittest.TestCase):
    ERRANDS = (errand((2, 0), (1, None)), errand((1, None)))

    def refused(self, error, errands, ranks, comings):
        for call in (run, answers):
            for word in WORDS:
                with self.assertRaises(error, msg=repr((errands, ranks, comings))):
                    call(errands, ranks, comings, word)

    def test_no_errands_goes_ahead_of_all(self):
        for errands in (None, True, 5, "ab", (), [], list(self.ERRANDS), self.ERRANDS + (None,)):
            for ranks in ((0, 1), None, (0, 0)):
                for comings in ([[0], [0]], None, [[-1], []]):
                    self.refused(NoErrands, errands, ranks, comings)

    def test_no_ranks_goes_ahead_of_no_comings(self):
        for ranks in (None, 0, [0, 1], (0, 0), (0,), (0, 1, 2), (0, True), (1, 2), "01", ()):
            for comings in ([[0], [0]], None, [[-1], []]):
                self.refused(NoRanks, self.ERRANDS, ranks, comings)

    def test_no_comings(self):
        wrong = [None, True, "", (), ([0], [0]), [[0]], [[0], [0], []], [(0,), [0]], [[0], None], [[-1], []]]
        wrong += [[[10000], []], [[0, 59], []], [[], [True]], [[], ["0"]], [[], [5, 5]]]
        for comings in wrong:
            self.refused(NoComings, self.ERRANDS, (1, 0), comings)


if __name__ == "__main__":
    unittest.main()
