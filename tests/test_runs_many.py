"""Runs of many small inputs, gone through in a fixed order, held against points 5, 6, 7 and 8."""

import itertools
import unittest

from ranksure.errors import NoComings
from ranksure.runs import answers, checked_comings, run

WORDS = ("high", "asked", "none")

SHAPES = (
    ((2, None),),
    ((3, 0), (1, None)),
    ((1, None), (2, 0), (1, None)),
    ((2, 1), (1, None), (2, 0), (1, None)),
    ((1, 0), (3, 1), (1, None)),
    ((2, 1), (1, None)),
)


def inputs_of_three():
    # Every 7 and late 3 let a second job come 4 behind the first.
    rows = (
        ([3, 7], [1], [0]),
        ([2], [1, 5], [0, 9]),
        ([1, 8], [2], [0, 4]),
        ([4], [2, 9], [0]),
        ([0], [0], [0]),
        ([5], [3], [1, 20]),
    )
    for shapes in itertools.product(SHAPES, repeat=3):
        errands = tuple([(7, 4, 3, shape) for shape in shapes])
        for row in rows:
            yield errands, (0, 1, 2), [list(one) for one in row]
        yield errands, (2, 0, 1), [[1], [0, 4], [3]]


def inputs_of_four():
    top = ((1, 0), (1, 1), (1, 2), (1, None))
    for shapes in itertools.product(SHAPES[1:], repeat=2):
        for last in (((4, 2), (1, None)), ((1, None), (3, 2), (1, None))):
            errands = tuple([(30, 30, 0, shape) for shape in (top,) + shapes + (last,)])
            for came in itertools.product((2, 4), (1, 2, 3), (1, 2), (0,)):
                yield errands, (0, 1, 2, 3), [[one] for one in came]
                yield errands, (0, 2, 1, 3), [[one] for one in came]


def inputs():
    return itertools.chain(inputs_of_three(), inputs_of_four())


def part_at(parts, did):
    """The part that a job is at that did so much, and whether it has begun it."""
    for length, tool in parts:
        if did < length:
            return tool, did > 0
        did -= length
    raise AssertionError("the job is done")


def best(errands, ranks, lending, there):
    """Which of the jobs {errand: did} that are there is to be done, by the words of point 6."""
    at = {number: part_at(errands[number][3], did) for number, did in there.items()}
    holders = {tool: number for number, (tool, begun) in at.items() if begun and tool is not None}
    waits = {}
    if lending != "high":
        for number, (tool, begun) in at.items():
            if not begun and tool in holders:
                waits[number] = holders[tool]

    def place(number):
        own = ranks.index(number)
        tool, begun = at[number]
        if lending == "high" and begun and tool is not None:
            users = [other for other in range(len(errands)) if tool in [part[1] for part in errands[other][3]]]
            return min([own] + [ranks.index(other) for other in users]), 0
        if lending == "asked":
            own = min([own] + [ranks.index(other) for other in waits if waits[other] == number])
        return own, 1

    can = [number for number in there if number not in waits]
    places = sorted([place(number) for number in can])
    assert len(set(places)) == len(places), "two jobs could be done alike"
    return min(can, key=place)


def expected_run(errands, ranks, comings, lending):
    did = {(number, job): 0 for number, row in enumerate(comings) for job in range(len(row))}
    works = [sum([part[0] for part in one[3]]) for one in errands]
    told = []
    while any([did[job] < works[job[0]] for job in did]):
        there = {}
        firsts = {}
        for number, row in enumerate(comings):
            left = [job for job in range(len(row)) if row[job] <= len(told) and did[(number, job)] < works[number]]
            if left:
                firsts[number] = left[0]
                there[number] = did[(number, left[0])]
        if there:
            number = best(errands, ranks, lending, there)
            told.append((number, firsts[number]))
            did[told[-1]] += 1
        else:
            told.append(None)
    return told


def spans(errands, told):
    """{(errand, job, part): (the tool, the first time, the last time)}, as a run shows them."""
    found = {}
    did = {}
    for time, done in enumerate(told):
        if done is None:
            continue
        before = did.get(done, 0)
        did[done] = before + 1
        for part, (length, tool) in enumerate(errands[done[0]][3]):
            if before < length:
                begun = found.get(done + (part,), (tool, time, time))[1]
                found[done + (part,)] = (tool, begun, time)
                break
            before -= length
    return found


def lower_parts(errands, ranks, told, number, came, end):
    """The parts of lower errands at which the hand is from a coming until its job is done."""
    parts = spans(errands, told)
    worked = {}
    for key in parts:
        times = [time for time in range(parts[key][1], parts[key][2] + 1) if told[time] == key[:2]]
        if ranks.index(key[0]) > ranks.index(number) and any([came <= time < end for time in times]):
            worked[key] = parts[key]
    return worked


class ManyRunsTest(unittest.TestCase):
    def jobs(self, errands, ranks, comings, word):
        """Each job with the parts of lower errands that it waits for."""
        told = run(errands, ranks, comings, word)
        for number, row in enumerate(answers(errands, ranks, comings, word)):
            for job, answer in enumerate(row):
                came = comings[number][job]
                yield came, lower_parts(errands, ranks, told, number, came, came + answer)

    def test_runs_are_as_point_6_says(self):
        for errands, ranks, comings in inputs():
            for word in WORDS:
                told = run(errands, ranks, comings, word)
                self.assertEqual(told, expected_run(errands, ranks, comings, word), (errands, ranks, comings, word))

    def test_answers_are_as_the_run_shows(self):
        for errands, ranks, comings in inputs():
            for word in WORDS:
                told = run(errands, ranks, comings, word)
                expected = []
                for number, row in enumerate(comings):
                    ends = [max([time for time, done in enumerate(told) if done == (number, job)])
                            for job in range(len(row))]
                    expected.append([end - came + 1 for end, came in zip(ends, row)])
                self.assertEqual(answers(errands, ranks, comings, word), expected)

    def test_no_tool_is_held_by_two(self):
        held = 0
        for errands, ranks, comings in inputs():
            for word in WORDS:
                parts = spans(errands, run(errands, ranks, comings, word))
                with_tools = sorted([part for part in parts.values() if part[0] is not None])
                for ahead, behind in zip(with_tools, with_tools[1:]):
                    if ahead[0] == behind[0]:
                        held += 1
                        self.assertLess(ahead[2], behind[1], (errands, ranks, comings, word))
        self.assertGreater(held, 1000)

    def test_by_high_one_wait_for_a_part_begun_ahead(self):
        waits = 0
        for errands, ranks, comings in inputs():
            for came, worked in self.jobs(errands, ranks, comings, "high"):
                waits += len(worked)
                self.assertLessEqual(len(worked), 1, (errands, ranks, comings))
                for tool, begun, last in worked.values():
                    self.assertIsNotNone(tool)
                    self.assertLess(begun, came)
        self.assertGreater(waits, 100)

    def test_by_asked_one_wait_for_each_lower_errand_and_tool(self):
        several = 0
        for errands, ranks, comings in inputs():
            for came, worked in self.jobs(errands, ranks, comings, "asked"):
                several += len(worked) > 1
                numbers = [key[0] for key in worked]
                tools = [part[0] for part in worked.values()]
                self.assertEqual(len(numbers), len(set(numbers)), (errands, ranks, comings))
                self.assertEqual(len(tools), len(set(tools)), (errands, ranks, comings))
                for tool, begun, last in worked.values():
                    self.assertIsNotNone(tool)
                    self.assertLess(begun, came)
        self.assertGreater(several, 10)

    def test_the_three_words_differ(self):
        differ = {1: 0, 2: 0, 3: 0}
        for errands, ranks, comings in inputs():
            runs = {tuple(run(errands, ranks, comings, word)) for word in WORDS}
            differ[len(runs)] += 1
        for many in differ.values():
            self.assertGreater(many, 10)

    def test_equal_things_give_equal_answers(self):
        for errands, ranks, comings in itertools.islice(inputs(), 0, None, 50):
            for word in WORDS:
                self.assertEqual(run(errands, ranks, comings, word), run(errands, ranks, comings, word))


def have_moments(every, late, row):
    """Whether there are moments, by trying all there could be."""
    for moments in itertools.product(*[range(came - late, came + 1) for came in row]):
        if all([behind - ahead >= every for ahead, behind in zip(moments, moments[1:])]):
            return True
    return False


class ManyComingsTest(unittest.TestCase):
    def test_all_small_rows(self):
        taken = 0
        refused = 0
        for every, late in ((2, 0), (2, 1), (3, 1), (3, 2), (4, 2), (5, 3)):
            errands = ((every, 1, late, ((1, None),)),)
            for many in range(5):
                for row in itertools.combinations(range(12), many):
                    if have_moments(every, late, row):
                        taken += 1
                        self.assertEqual(checked_comings(errands, [list(row)]), [list(row)])
                    else:
                        refused += 1
                        with self.assertRaises(NoComings, msg=repr((every, late, row))):
                            checked_comings(errands, [list(row)])
        self.assertGreater(min(taken, refused), 500)


if __name__ == "__main__":
    unittest.main()
