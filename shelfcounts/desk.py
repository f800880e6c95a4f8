"""A desk: it is told rows of words and answers each with a text."""

from shelfcounts.books import book_at
from shelfcounts.entries import is_moment
from shelfcounts.errors import NoGood, NoPlace, NoRow, NoText
from shelfcounts.fewest import fewest
from shelfcounts.figures import number_of
from shelfcounts.hands import clearing_hands
from shelfcounts.heaps import shut_rows
from shelfcounts.houses import many_up_to
from shelfcounts.keeper import Keeper
from shelfcounts.known import told
from shelfcounts.lots import cost_of, worth_behind
from shelfcounts.papertexts import told_text, tree_text
from shelfcounts.reader import read_entry, read_house
from shelfcounts.settling import causes, least_lot
from shelfcounts.stocks import stock_at
from shelfcounts.texts import house_text
from shelfcounts.tracks import place_of, track_at

# The sorts of the words behind the first one.
ROWS = {
    "enter": ("ENTRY",),
    "back": ("NAME",),
    "close": ("DAY", "MODE"),
    "house": (),
    "then": ("MANY",),
    "late": (),
    "clashing": (),
    "shut": ("GOOD",),
    "now": ("GOOD", "PLACE"),
    "at": ("GOOD", "PLACE", "MOMENT"),
    "book": ("GOOD", "PLACE", "MOMENT"),
    "again": ("GOOD",),
    "lot": (),
    "tree": (),
    "causes": (),
    "hands": (),
    "worth": ("GOOD", "MOMENT"),
    "cost": ("NAME",),
}
NUMBERS = ("DAY", "MANY", "MOMENT")


def lines_of(parts):
    """The parts as lines."""
    return "\n".join(parts) if parts else "none"


def words_of(parts):
    """The parts as words of one line."""
    return " ".join(parts) if parts else "none"


def sum_text(total, names):
    """The text of a shut heap's sum and names."""
    return " ".join([str(total), *names])


def deed_text(rows):
    """The text of what a deed changed."""
    went, came = rows
    lines = [f"went {good} {sum_text(total, names)}" for good, names, total in went]
    lines += [f"came {good} {sum_text(total, names)}" for good, names, total in came]
    return "\n".join(["ok", *lines])


def say_enter(keeper, text):
    """Enters the entry that is written so."""
    return deed_text(keeper.enter(read_entry(text)))


def say_back(keeper, name):
    """Takes the name back."""
    return deed_text(keeper.back(name))


def say_close(keeper, day, mode):
    """Closes the days up to this one."""
    return deed_text(keeper.close(day, mode))


def say_house(keeper):
    """The house of what stands."""
    return house_text(keeper.house())


def say_then(keeper, many):
    """The house behind the first so many rows."""
    return house_text(keeper.then(many))


def say_late(keeper):
    """What stands at another moment than told."""
    return lines_of([f"{name} {written} {moment}" for name, written, moment in keeper.late()])


def say_clashing(keeper):
    """The goods that clash."""
    return words_of(keeper.clashing())


def say_shut(keeper, good):
    """The rows of the good's shut heaps."""
    return lines_of([sum_text(total, names) for names, total in shut_rows(keeper.house(), good)])


def say_now(keeper, good, place):
    """What is told of what stands at the place now."""
    house = keeper.house()
    track = track_at(house, place, len(house[2]))
    return told_text(told(house, good, ("now", track)))


def say_at(keeper, good, place, moment):
    """The stock at the place at the moment."""
    stock = stock_at(keeper.house(), good, place, moment)
    return "free" if stock is None else str(stock)


def say_book(keeper, good, place, moment):
    """The book at the place at the moment."""
    book = book_at(keeper.house(), good, place, moment)
    return "none" if book is None else str(book)


def say_again(keeper, good):
    """The fewest places to be counted again, so that it is known what stands at each one now."""
    house = keeper.house()
    taken, rings, sides = fewest(house, good, [("now", track) for track in house[0]])
    return words_of([place_of(house, tie[1], len(house[2])) for tie in taken])


def say_lot(keeper):
    """The least lot of entries that settles the house."""
    paper = least_lot(keeper.house())
    return "more" if paper[0] == "more" else "settles " + words_of(paper[1])


def say_tree(keeper):
    """The tree that shows that no lesser lot settles the house."""
    paper = least_lot(keeper.house())
    return "none" if paper[-1] is None else tree_text(paper[-1])


def say_causes(keeper):
    """What settles the house by itself."""
    return lines_of([f"{word} {name}" for word, name in causes(keeper.house())])


def say_hands(keeper):
    """The hands without whose counts nothing clashes."""
    return words_of(clearing_hands(keeper.house()))


def say_worth(keeper, good, moment):
    """The worth of the good's lots behind all entries up to the moment."""
    house = keeper.house()
    return str(worth_behind(house, good, many_up_to(house, moment)))


def say_cost(keeper, name):
    """The cost of what the go of this name took."""
    return str(cost_of(keeper.house(), name))


ANSWERS = {
    "enter": say_enter,
    "back": say_back,
    "close": say_close,
    "house": say_house,
    "then": say_then,
    "late": say_late,
    "clashing": say_clashing,
    "shut": say_shut,
    "now": say_now,
    "at": say_at,
    "book": say_book,
    "again": say_again,
    "lot": say_lot,
    "tree": say_tree,
    "causes": say_causes,
    "hands": say_hands,
    "worth": say_worth,
    "cost": say_cost,
}


class Desk:
    """Keeps a keeper of the places and goods of a house without entries, of its text."""

    def __init__(self, text):
        places, goods, entries = read_house(text)
        if entries != ():
            # The first entry stands behind the lines of places and goods.
            raise NoText(2)
        self.keeper = Keeper(places, goods)

    def say(self, row):
        """Answers a row, whatever it is."""
        word, *parts = words_in(row)
        values = [value_in(part, sort) for part, sort in zip(parts, ROWS[word])]
        refuse_what_is_not_there(self.keeper.house(), parts, ROWS[word])
        answer = ANSWERS[word]
        return answer(self.keeper, *values)


def words_in(row):
    """The words of a row, whatever it is; all that is behind enter is one."""
    if not isinstance(row, str) or "\n" in row:
        raise NoRow("no text of one line")
    words = row.split(" ")
    if words[0] == "enter" and len(words) > 1:
        words = ["enter", " ".join(words[1:])]
    if words[0] not in ROWS or len(words) != len(ROWS[words[0]]) + 1:
        raise NoRow("no such row")
    return words


def value_in(part, sort):
    """What the word of a row tells: a number where its sort is one, else itself."""
    if sort not in NUMBERS:
        return part
    number = number_of(part)
    if number is None or (sort == "MOMENT" and not is_moment(number)):
        raise NoRow("no such number")
    return number


def refuse_what_is_not_there(house, parts, sorts):
    """Refuses words for a good or a place that the house hasn't; in each row the good is ahead of the place."""
    for part, sort in zip(parts, sorts):
        if sort == "GOOD" and part not in house[1]:
            raise NoGood("no good there")
        if sort == "PLACE" and part not in house[0]:
            raise NoPlace("no place there")
