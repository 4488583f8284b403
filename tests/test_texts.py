"""Errands as texts: what is written, what is read back, and what is not."""

import inspect
import itertools
import unittest

from ranksure.errors import NoErrands, NoText
from ranksure.texts import read, shown
from tests.made_up import made_up


def plain(work, every=60, due=60, late=0):
    return (every, due, late, ((work, None),))


class TextCase(unittest.TestCase):
    def both_ways(self, errands, text):
        self.assertEqual(shown(errands), text)
        told = read(text)
        self.assertEqual(told, errands)
        self.assertIs(told.__class__, tuple)

    def refused(self, thing):
        with self.assertRaises(NoText, msg=repr(thing)) as caught:
            read(thing)
        self.assertIs(caught.exception.__class__, NoText)


class ByHandTest(TextCase):
    def test_arguments(self):
        self.assertEqual(list(inspect.signature(shown).parameters), ["errands"])
        self.assertEqual(list(inspect.signature(read).parameters), ["text"])

    def test_one_errand(self):
        self.both_ways((plain(3, every=20, due=9, late=4),), "20 9 4 3\n")

    def test_several_parts_with_tools_and_without(self):
        parts = ((1, None), (20, 0), (3, 3), (10, None))
        self.both_ways(((60, 40, 20, parts),), "60 40 20 1 20*0 3*3 10\n")

    def test_several_errands(self):
        errands = ((20, 10, 0, ((1, 2), (1, None))), (2, 1, 1, ((2, None),)), (30, 3, 5, ((3, 1), (4, 1), (5, None))))
        self.both_ways(errands, "20 10 0 1*2 1\n2 1 1 2\n30 3 5 3*1 4*1 5\n")

    def test_errands_that_are_alike(self):
        self.both_ways((plain(1),) * 6, "60 60 0 1\n" * 6)

    def test_the_bounds_of_numbers(self):
        self.both_ways(((2, 1, 0, ((1, 0), (1, None))),), "2 1 0 1*0 1\n")
        self.both_ways(((60, 60, 0, ((20, 3), (20, None))),), "60 60 0 20*3 20\n")
        self.both_ways(((21, 1, 20, ((20, None),) * 4),), "21 1 20 20 20 20 20\n")

    def test_no_errands(self):
        for thing in (None, (), [], "20 9 4 3\n", (None,), [plain(1)], (plain(1),) * 7, (plain(21),), plain(1),
                      (plain(True),), 0):
            with self.assertRaises(NoErrands, msg=repr(thing)):
                shown(thing)


class RefusedTest(TextCase):
    def test_it_is_read_without_the_fault(self):
        self.assertEqual(read("20 9 4 3*1 2\n"), ((20, 9, 4, ((3, 1), (2, None))),))

    def test_blanks(self):
        for text in ("20  9 4 3*1 2\n", "20 9 4  3*1 2\n", "20 9 4 3*1  2\n", " 20 9 4 3*1 2\n", "20 9 4 3*1 2 \n",
                     "20 9 4 3* 1 2\n", "20 9 4 3 *1 2\n", "20 9 4 3 * 1 2\n", "20 9 4 3*1 2\n ", "2 0 9 4 3*1 2\n",
                     "209 4 3*1 2\n", "20 94 3*1 2\n", " \n", "    \n", "20,9,4,3*1,2\n"):
            self.refused(text)

    def test_line_ends(self):
        for text in ("20 9 4 3*1 2", "20 9 4 3*1 2\n\n", "\n20 9 4 3*1 2\n", "20 9 4 3*1 2\n20 9 4 2", "\n", "\n\n",
                     "20 9 4 2\n\n20 9 4 2\n", "20 9 4 3*1 2\r\n", "20 9 4 3*1 2\r", "20 9 4 2\r20 9 4 2\n",
                     "20 9 4 2\n\r20 9 4 2\n", "20 9 4 3*1\n2\n", "20 9 4 3*1 2\x0b", "20 9 4 2\x0c20 9 4 2\n",
                     "20 9 4 2\x1e20 9 4 2\n", "20 9 4 2\x8520 9 4 2\n", "20 9 4 2\u202820 9 4 2\n", "20 9 4 2\u2029",
                     "20 9 4 2\\n", "20 9 4 2\n\x00"):
            self.refused(text)

    def test_other_signs_between(self):
        for sign in ("\t", "\r", "\x0b", "\x0c", "\x00", "\xa0", "\u2003", "\u3000", "_", ",", ";", "\x1f"):
            for text in (f"20{sign}9 4 3*1 2\n", f"20 9 4{sign}3*1 2\n", f"20 9 4 3*1{sign}2\n", f"20 9 4 3*1 2{sign}\n",
                         f"{sign}20 9 4 3*1 2\n", f"20 {sign}9 4 3*1 2\n"):
                self.refused(text)

    def test_signs_of_numbers(self):
        for text in ("+20 9 4 3*1 2\n", "20 +9 4 3*1 2\n", "20 9 +4 3*1 2\n", "20 9 4 +3*1 2\n", "20 9 4 3*+1 2\n",
                     "20 9 4 3*1 +2\n", "-20 9 4 3*1 2\n", "20 -9 4 3*1 2\n", "20 9 -4 3*1 2\n", "20 9 4 -3*1 2\n",
                     "20 9 4 3*-1 2\n", "20 9 4 3*1 -2\n", "20 9 -0 3*1 2\n", "20 9 4 3*-0 2\n"):
            self.refused(text)

    def test_a_nought_ahead(self):
        for text in ("020 9 4 3*1 2\n", "20 09 4 3*1 2\n", "20 9 04 3*1 2\n", "20 9 4 03*1 2\n", "20 9 4 3*01 2\n",
                     "20 9 4 3*1 02\n", "20 9 00 3*1 2\n", "20 9 4 3*00 2\n"):
            self.refused(text)

    def test_bounds_of_numbers(self):
        for text in ("1 1 0 1\n", "0 1 0 1\n", "61 9 4 3*1 2\n", "100 9 4 3*1 2\n", "20 0 4 3*1 2\n", "20 17 4 3*1 2\n",
                     "60 9 21 3*1 2\n", "20 1 20 1\n", "20 1 19 0\n", "20 9 4 0*1 2\n", "20 9 4 21*1 2\n",
                     "20 9 4 3*1 0\n", "20 9 4 3*1 21\n", "20 9 4 3*4 2\n", "20 9 4 3*10 2\n", "20 9 4 3*60 2\n",
                     "20 9 4 " + "9" * 5000 + "\n", "9" * 5000 + " 9 4 2\n"):
            self.refused(text)
        self.assertEqual(read("20 16 4 3*1 2\n")[0][1], 16)
        self.assertEqual(read("20 1 19 1\n")[0][2], 19)

    def test_tools(self):
        for text in ("20 9 4 3* 2\n", "20 9 4 *1 2\n", "20 9 4 * 2\n", "20 9 4 3**1 2\n", "20 9 4 3*1* 2\n",
                     "20 9 4 3*1*2 2\n", "20 9 4 3*1*1 2\n", "20 9 4 3*x 2\n", "20 9 4 3*None 2\n", "20 9 4 3x1 2\n",
                     "20* 9 4 3*1 2\n", "20*1 9 4 3*1 2\n", "20 9*1 4 3*1 2\n", "20 9 4*1 3*1 2\n", "20 9 4 3:1 2\n",
                     "20 9 4 *3*1 2\n"):
            self.refused(text)

    def test_the_last_part_has_no_tool(self):
        for text in ("20 9 4 3*1\n", "20 9 4 2 3*0\n", "20 9 4 3*1 2\n20 9 4 3*1\n", "20 9 4 2*1 3*1\n"):
            self.refused(text)

    def test_how_many_parts(self):
        self.assertEqual(len(read("20 9 4 1 1 1 1\n")[0][3]), 4)
        for text in ("20 9 4\n", "20 9\n", "20\n", "20 9 4 1 1 1 1 1\n", "20 9 4 \n"):
            self.refused(text)

    def test_how_many_lines(self):
        self.assertEqual(len(read("20 9 4 2\n" * 6)), 6)
        self.refused("20 9 4 2\n" * 7)
        self.refused("")

    def test_digits_of_other_scripts(self):
        for sign in ("\u0662", "\u0968", "\uff12", "\u00b2", "\u2082", "\u2461", "\U0001d7d0", "\u4e8c"):
            for text in (f"{sign}0 9 4 3*1 2\n", f"20 {sign} 0 3*1 2\n", f"20 9 {sign} 3*1 2\n", f"20 9 4 {sign}*1 2\n",
                         f"20 9 4 3*{sign} 2\n", f"20 9 4 3*1 {sign}\n"):
                self.refused(text)

    def test_other_words(self):
        for text in ("a b c d\n", "20 9 4 two\n", "0x14 9 4 2\n", "2e1 9 4 2\n", "20.0 9 4 2\n", "2_0 9 4 2\n",
                     "((20, 9, 4, ((2, None),)),)\n", "# 20 9 4 2\n", "20 9 4 2 # so\n", "\ufeff20 9 4 2\n", "\ud800\n",
                     "20 9 4 None\n", "20 9 4 True\n"):
            self.refused(text)

    def test_one_wrong_line_is_enough(self):
        for place in range(3):
            lines = ["20 9 4 3*1 2\n"] * 3
            lines[place] = "20 17 4 3*1 2\n"
            self.refused("".join(lines))

    def test_things_that_are_no_text(self):
        for thing in (None, True, False, 0, 20, 1.5, b"20 9 4 2\n", bytearray(b"20 9 4 2\n"), ["20 9 4 2\n"],
                      ("20 9 4 2\n",), [], (), {}, set(), object(), (plain(1),), plain(1), str, {"20 9 4 2\n": 0}):
            self.refused(thing)


class ManyTest(TextCase):
    def kinds(self):
        return itertools.chain(
            made_up(300, 101, most=6, everies=range(2, 61), late=20, length=20),
            made_up(300, 102),
        )

    def test_read_leads_back(self):
        for errands, _ in self.kinds():
            text = shown(errands)
            self.assertIs(text.__class__, str)
            self.assertEqual(text.count("\n"), len(errands))
            self.both_ways(errands, text)

    def test_other_errands_other_texts(self):
        texts = {}
        for errands, _ in self.kinds():
            self.assertEqual(texts.setdefault(shown(errands), errands), errands)

    def test_what_is_read_is_written_so(self):
        """Each text that is one sign away from a written one is refused, or is just what is written of what it tells."""
        told = {True: 0, False: 0}
        for errands, _ in made_up(12, 103, most=2, everies=range(2, 61), late=20, length=20):
            text = shown(errands)
            near = []
            for place in range(len(text) + 1):
                near.append(text[:place] + text[place + 1:])
                for sign in "0123456789* \n\t+-":
                    near.append(text[:place] + sign + text[place:])
                    near.append(text[:place] + sign + text[place + 1:])
            for other in near:
                try:
                    found = read(other)
                except NoText:
                    told[False] += 1
                else:
                    told[True] += 1
                    self.assertEqual(shown(found), other)
        self.assertGreater(min(told.values()), 1000)


if __name__ == "__main__":
    unittest.main()
