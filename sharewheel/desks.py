"""The desk: a tree, a row of pieces and a list of senders that are told lines of words, and answer in texts."""

from sharewheel.errors import NoText
from sharewheel.floors import floor, longest_wait
from sharewheel.flows import spans
from sharewheel.lines import line
from sharewheel.members import check_share
from sharewheel.pieces import checked
from sharewheel.plans import piles, waits
from sharewheel.texts import read_fraction, read_number, show_fraction
from sharewheel.trees import Tree
from sharewheel.wheels import dealt

RATES_BELOW = 1_000_000

# What stands behind a line's first word.
FORMS = {
    "class": (("word", "word", "word", "number"), ("word", "word", "word", "number", "number")),
    "reshare": (("word", "number"),),
    "curb": (("word", "number", "rate"),),
    "uncurb": (("word",),),
    "take": (("word",),),
    "come": (("word", "number"),),
    "waits": (("word",),),
    "until": (("number",),),
    "floor": (("word",),),
    "longest": (("word", "number", "rate"),),
    "piece": (("number", "number", "number", "number"),),
    "deal": ((),),
    "sender": (("number", "number", "rate"),),
    "plan": ((),),
}


def read_rate(word):
    rate = read_fraction(word)
    if abs(rate[0]) >= RATES_BELOW or rate[1] >= RATES_BELOW:
        raise NoText("the top and the bottom of a rate are below 10 ** 6")
    return rate


def read_word(word, kind):
    if kind == "number":
        return read_number(word)
    if kind == "rate":
        return read_rate(word)
    return word


def read_words(words):
    for form in FORMS.get(words[0], ()):
        if len(form) == len(words) - 1:
            return [read_word(word, kind) for word, kind in zip(words[1:], form)]
    raise NoText("the desk knows no such line")


def joined(texts, between):
    return between.join(texts) if texts else "none"


def say_class(desk, given):
    room = given[4] if len(given) == 5 else None
    desk.tree.put(given[0], given[1], given[2], given[3], room)
    return "ok"


def say_reshare(desk, given):
    desk.tree.reshare(given[0], given[1])
    return "ok"


def say_curb(desk, given):
    desk.tree.curb(given[0], given[1], given[2])
    return "ok"


def say_uncurb(desk, given):
    desk.tree.uncurb(given[0])
    return "ok"


def say_take(desk, given):
    return " ".join(["back"] + [str(number) for number in desk.tree.take(given[0])])


def say_come(desk, given):
    number = desk.tree.come(given[0], given[1])
    return "dropped" if number is None else f"piece {number}"


def say_waits(desk, given):
    return joined([str(number) for number in desk.tree.waiting(given[0])], " ")


def say_until(desk, given):
    before = len(desk.tree.goings())
    desk.tree.until(given[0])
    return joined([f"{start} {number} {name}" for start, number, name in desk.tree.goings()[before:]], "; ")


def say_floor(desk, given):
    told = floor(desk.tree, given[0])
    return show_fraction(told[0]) + " " + show_fraction(told[1])


def say_longest(desk, given):
    return show_fraction(longest_wait(desk.tree, given[0], line(given[1], given[2])))


def say_piece(desk, given):
    desk.row = checked(desk.row + [(given[0], given[1], given[2], given[3])])
    return "ok"


def say_deal(desk, given):
    flows = spans(desk.row)
    texts = []
    for place, start in dealt(desk.row)[0]:
        flowed = show_fraction(flows[place][1])
        texts.append(f"{place} {start} {flowed}")
    return joined(texts, "; ")


def say_sender(desk, given):
    check_share(given[0])
    desk.senders.append((given[0], line(given[1], given[2])))
    return "ok"


def say_plan(desk, given):
    texts = []
    for pile, wait in zip(piles(desk.senders), waits(desk.senders)):
        texts.append(show_fraction(pile) + " " + show_fraction(wait))
    return joined(texts, "; ")


ANSWERS = {
    "class": say_class,
    "reshare": say_reshare,
    "curb": say_curb,
    "uncurb": say_uncurb,
    "take": say_take,
    "come": say_come,
    "waits": say_waits,
    "until": say_until,
    "floor": say_floor,
    "longest": say_longest,
    "piece": say_piece,
    "deal": say_deal,
    "sender": say_sender,
    "plan": say_plan,
}


class Desk:
    def __init__(self, most):
        self.tree = Tree(most)
        self.row = []
        self.senders = []

    def say(self, text):
        words = text.split(" ")
        given = read_words(words)
        return ANSWERS[words[0]](self, given)
