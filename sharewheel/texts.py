"""Texts: numbers, fractions and rows written and read, and the report of a row."""

from sharewheel.errors import NoText
from sharewheel.flows import spans
from sharewheel.pieces import checked
from sharewheel.ratios import ratio
from sharewheel.wheels import dealt

FIGURES = "0123456789"
MOST_FIGURES = 15
MOST_FRACTION_FIGURES = 40
HEADINGS = ("piece", "sender", "comes", "begins", "ends", "flowed")


def figures_of(number):
    # Python's own writing of a number stops at some thousand figures, so a long one is written part by part.
    part = 10 ** 60
    written = []
    while number >= part:
        written.append(str(number % part).zfill(60))
        number = number // part
    written.append(str(number))
    return "".join(reversed(written))


def show_fraction(one):
    sign = "-" if one[0] < 0 else ""
    top = sign + figures_of(abs(one[0]))
    return top if one[1] == 1 else top + "/" + figures_of(one[1])


def read_figures(word, most):
    if not 1 <= len(word) <= most or not all([sign in FIGURES for sign in word]):
        raise NoText("a number has figures alone, and not too many")
    if word[0] == "0" and word != "0":
        raise NoText("no nought stands ahead of a number")
    return int(word)


def read_number(word):
    return read_figures(word, MOST_FIGURES)


def read_top(word):
    if word.startswith("-"):
        return -read_figures(word[1:], MOST_FRACTION_FIGURES)
    return read_figures(word, MOST_FRACTION_FIGURES)


def read_bottom(word):
    bottom = read_figures(word, MOST_FRACTION_FIGURES)
    if bottom == 0:
        raise NoText("the bottom of a fraction is not 0")
    return bottom


def read_fraction(word):
    parts = word.partition("/")
    one = ratio(read_top(parts[0]), 1 if parts[1] == "" else read_bottom(parts[2]))
    # A fraction has just one form: this leaves out those not in lowest terms, a bottom of 1, and nought with a sign.
    if show_fraction(one) != word:
        raise NoText("the fraction is not written in its one form")
    return one


def show_row(row):
    return "\n".join([f"{at} {who} {length} {share}" for at, who, length, share in row])


def read_piece(text):
    words = text.split(" ")
    if len(words) != 4:
        raise NoText("a piece has four numbers with one blank between")
    numbers = [read_number(word) for word in words]
    return (numbers[0], numbers[1], numbers[2], numbers[3])


def read_row(text):
    if text == "":
        return []
    return checked([read_piece(line) for line in text.split("\n")])


def words_gone(row, gone):
    places = sorted([place for place, start in gone])
    # The flowing road bears just what went, so its places are those among what went.
    flows = spans([row[place] for place in places])
    ends = {}
    for place, span in zip(places, flows):
        ends[place] = show_fraction(span[1])
    rows = []
    for place, start in gone:
        piece = row[place]
        end = start + piece[2]
        rows.append([str(place), str(piece[1]), str(piece[0]), str(start), str(end), ends[place]])
    return rows


def words_dropped(row, dropped):
    return [[str(place), str(row[place][1]), str(row[place][0]), "-", "-", "-"] for place in dropped]


def columned(rows):
    widths = [max([len(words[column]) for words in rows]) for column in range(len(HEADINGS))]
    lines = []
    for words in rows:
        lines.append("  ".join([word.rjust(width) for word, width in zip(words, widths)]))
    return "\n".join(lines)


def report(row, rooms=None):
    told = dealt(row, rooms)
    return columned([list(HEADINGS)] + words_gone(row, told[0]) + words_dropped(row, told[1]))
