"""The desk: rows of words about sums, each answered by a text."""

from polyring.asked import same
from polyring.errors import NoMeet, NoParts, NoRing, NoUnknowns, NotWritten
from polyring.factors import factors
from polyring.greatest import common_parts
from polyring.notes import LETTERS, are_figures, read, shown
from polyring.numbers import check_ring
from polyring.orders import is_order
from polyring.partsin import parts_in
from polyring.reducing import reduced_by
from polyring.rows import row_of, sum_of
from polyring.spans import Span
from polyring.squares import parts
from polyring.sums import check_unknowns, minus, plus, slope, times

NAMES = "ABCDEFGHIJKLMNOPQRSTUVWXYZ"
MOST_FIGURES = 9
MOST_SUMS = 4
NO_ROW = "no row"


# What earlier rows have set: the ring and the count of unknowns, None ahead of a ring, and the sums by their names.
class Desk:
    def __init__(self):
        self.ring = None
        self.many = None
        self.sums = {}

    def named(self, names):
        return [self.sums[name] for name in names]


def is_name(word):
    return len(word) == 1 and word in NAMES


def is_number(word):
    return len(word) <= MOST_FIGURES and are_figures(word) and (word == "0" or word[0] != "0")


# The words themselves where they are names, as many as told, else None.
def names_among(words, fewest, most):
    return words if fewest <= len(words) <= most and all([is_name(word) for word in words]) else None


# The functions of this kind tell the names in a row that must stand for sums, or None where the row isn't right.
def names_of_let(desk, words):
    return [] if len(words) > 2 and is_name(words[1]) else None


def names_of_one(desk, words):
    return names_among(words[1:], 1, 1)


def names_of_two(desk, words):
    return names_among(words[1:], 2, 2)


def names_of_slope(desk, words):
    if len(words) != 3 or words[2] not in LETTERS[:desk.many]:
        return None
    return names_among(words[1:2], 1, 1)


def names_of_common(desk, words):
    return names_of_two(desk, words) if desk.ring == 0 else None


def names_of_parts(desk, words):
    return names_of_one(desk, words) if desk.ring == 0 or desk.many == 1 else None


def names_of_factors(desk, words):
    return names_of_one(desk, words) if desk.ring != 0 and desk.many == 1 else None


def names_of_base(desk, words):
    return names_behind_order(desk, words, 0)


def names_of_member(desk, words):
    return names_behind_order(desk, words, 1)


# So many names, and then those of the sums that make others.
def names_behind_order(desk, words, more):
    if desk.ring == 0 or len(words) < 2 or not is_order(words[1]):
        return None
    return names_among(words[2:], more + 1, more + MOST_SUMS)


def names_of_same(desk, words):
    if desk.ring == 0 or words.count("with") != 1:
        return None
    place = words.index("with")
    ones = names_among(words[1:place], 1, MOST_SUMS)
    others = names_among(words[place + 1:], 1, MOST_SUMS)
    return None if ones is None or others is None else ones + others


def let_answer(desk, words):
    desk.sums[words[1]] = read(desk.ring, desk.many, " ".join(words[2:]))
    return "ok"


def show_answer(desk, words):
    return shown(desk.sums[words[1]])


def plus_answer(desk, words):
    return shown(plus(desk.ring, desk.sums[words[1]], desk.sums[words[2]]))


def minus_answer(desk, words):
    return shown(minus(desk.ring, desk.sums[words[1]], desk.sums[words[2]]))


def times_answer(desk, words):
    return shown(times(desk.ring, desk.sums[words[1]], desk.sums[words[2]]))


def slope_answer(desk, words):
    return shown(slope(desk.ring, desk.sums[words[1]], LETTERS.index(words[2])))


def common_answer(desk, words):
    return joined_texts([shown(row) for row in common_parts(desk.sums[words[1]], desk.sums[words[2]])])


def joined_texts(texts):
    return " ; ".join(texts)


def parts_answer(desk, words):
    row = desk.sums[words[1]]
    if desk.ring == 0:
        return text_of_parts(parts_in(row))
    return text_of_parts(with_sums(parts(desk.ring, row_of(row))))


def factors_answer(desk, words):
    return text_of_parts(with_sums(factors(desk.ring, row_of(desk.sums[words[1]]))))


def with_sums(pair):
    return (pair[0], [(sum_of(row), many) for row, many in pair[1]])


def text_of_parts(pair):
    return joined_texts([str(pair[0])] + [text_of_part(shown(row), many) for row, many in pair[1]])


def text_of_part(text, many):
    return f"{text} ^ {many}"


def base_answer(desk, words):
    rows = Span(desk.ring, desk.named(words[2:])).rows_by(words[1])
    return joined_texts([shown(row) for row in rows]) if len(rows) > 0 else "none"


def member_answer(desk, words):
    rows = Span(desk.ring, desk.named(words[3:])).rows_by(words[1])
    rest = reduced_by(desk.ring, words[1], desk.sums[words[2]], rows)[1]
    return "yes" if len(rest) == 0 else "no: " + shown(rest)


def same_answer(desk, words):
    place = words.index("with")
    return "yes" if same(desk.ring, desk.named(words[1:place]), desk.named(words[place + 1:])) else "no"


KINDS = {
    "let": (names_of_let, let_answer),
    "show": (names_of_one, show_answer),
    "plus": (names_of_two, plus_answer),
    "minus": (names_of_two, minus_answer),
    "times": (names_of_two, times_answer),
    "slope": (names_of_slope, slope_answer),
    "common": (names_of_common, common_answer),
    "parts": (names_of_parts, parts_answer),
    "factors": (names_of_factors, factors_answer),
    "base": (names_of_base, base_answer),
    "member": (names_of_member, member_answer),
    "same": (names_of_same, same_answer),
}


def answers(text):
    desk = Desk()
    told = []
    for line in text.split("\n"):
        words = [word for word in line.split(" ") if word != ""]
        if len(words) > 0:
            told.append(answer_to(desk, words))
    return told


def answer_to(desk, words):
    if words[0] == "ring":
        return ring_answer(desk, words)
    if desk.ring is None or words[0] not in KINDS:
        return NO_ROW
    names = KINDS[words[0]][0](desk, words)
    if names is None:
        return NO_ROW
    for name in names:
        if name not in desk.sums:
            return f"no sum {name}"
    return answer_or_refusal(KINDS[words[0]][1], desk, words)


# Nothing is set ahead of the last step that may be refused, so what is refused changes nothing.
def answer_or_refusal(answer, desk, words):
    try:
        return answer(desk, words)
    except NotWritten:
        return "refused: not written"
    except NoMeet:
        return "refused: no meet"
    except NoParts:
        return "refused: no parts"


def ring_answer(desk, words):
    if len(words) != 3 or not is_number(words[1]) or not is_number(words[2]):
        return NO_ROW
    try:
        check_ring(int(words[1]))
        check_unknowns(int(words[2]))
    except NoRing:
        return "refused: no ring"
    except NoUnknowns:
        return "refused: no unknowns"
    desk.ring = int(words[1])
    desk.many = int(words[2])
    desk.sums = {}
    return "ok"
