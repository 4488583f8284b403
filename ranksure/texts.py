"""Errands written as a text, and read back."""

from ranksure.errands import MOST_EVERY, checked
from ranksure.errors import NoErrands, NoText


def written_part(part):
    length = str(part[0])
    return length if part[1] is None else length + "*" + str(part[1])


def line_of(errand):
    words = [str(errand[0]), str(errand[1]), str(errand[2])]
    return " ".join(words + [written_part(part) for part in errand[3]]) + "\n"


def shown(errands):
    checked(errands)
    return "".join([line_of(errand) for errand in errands])


# No number of an errand is beyond 60. Python's own int reads more than is ever written:
# signs, zeros ahead, digits of other scripts.
def read_number(word):
    written = [str(number) for number in range(MOST_EVERY + 1)]
    if word not in written:
        raise NoText("this is no number that an errand can have")
    return written.index(word)


def read_part(word):
    pieces = word.split("*")
    if len(pieces) > 2:
        raise NoText("a part has one tool at the most")
    tool = read_number(pieces[1]) if len(pieces) == 2 else None
    return (read_number(pieces[0]), tool)


# A line with too few words gives no errand, which is refused where the errands are checked.
def read_line(line):
    words = line.split(" ")
    numbers = tuple([read_number(word) for word in words[:3]])
    return numbers + (tuple([read_part(word) for word in words[3:]]),)


# Lines end with a line feed alone, so nothing may stand behind the last one.
def read(text):
    if not isinstance(text, str) or not text.endswith("\n"):
        raise NoText("errands are written as lines, each ended by a line end")
    errands = tuple([read_line(line) for line in text.split("\n")[:-1]])
    try:
        return checked(errands)
    except NoErrands:
        raise NoText("no errands are written so") from None
