"""States (places, goods, forms, backs, closed, mode): what was written down and taken back, and the closed days."""

from shelfcounts.entries import MOMENTS_IN_A_DAY, day_of, is_entry_of, with_moment
from shelfcounts.errors import Closed, NoDay, NoEntry, NoName, TooMany
from shelfcounts.houses import MOST_ENTRIES, house_of, in_order
from shelfcounts.names import is_name, is_whole

MOST_FORMS = 60
MOST_BACKS = 60
LAST_DAY = 99
MODES = ("refuse", "up")
# Of a closed day these may be taken up to a later one: they tell what was done, not what was there or where.
TAKEN_UP = ("come", "go", "move", "some")


def start(places, goods):
    """The state of these places and goods without forms, backs and closed days."""
    own_places, own_goods, entries = house_of(places, goods, ())
    return (own_places, own_goods, (), (), None, None)


def standing(state):
    """The entries that stand, each with the moment at which it does, in their order."""
    forms = state[2]
    backs = state[3]
    names = [entry[1] for entry, moment in forms]
    return in_order([with_moment(entry, moment) for entry, moment in forms
                     if names.count(entry[1]) == 1 and entry[1] not in backs])


def house_now(state):
    """The house of what stands."""
    return (state[0], state[1], standing(state))


def entered(state, entry):
    """The state with an entry written down, whatever it is."""
    places, goods, forms, backs, closed, mode = state
    if not is_entry_of(entry, places, goods):
        raise NoEntry("no entry of these places and goods")
    if any(form[0] == entry for form in forms):
        return state
    form = (entry, moment_to_stand(entry, closed, mode))
    return allowed(state, (places, goods, tuple(sorted(forms + (form,))), backs, closed, mode))


def moment_to_stand(entry, closed, mode):
    """The moment at which an entry would stand that is written down now."""
    moment = entry[2]
    if not is_closed(moment, closed) or mode != "up" or entry[0] not in TAKEN_UP:
        return moment
    if closed == LAST_DAY:
        raise Closed("behind the last day there is none")
    return (closed + 1) * MOMENTS_IN_A_DAY


def is_closed(moment, closed):
    """Whether the day of the moment is closed."""
    return closed is not None and day_of(moment) <= closed


def in_closed_days(state):
    """The entries that stand in closed days, in their order."""
    return [entry for entry in standing(state) if is_closed(entry[2], state[4])]


def allowed(state, later):
    """The later state, where it changes no closed day of the state and has not too much."""
    if in_closed_days(later) != in_closed_days(state):
        raise Closed("other entries would stand in closed days")
    if len(later[2]) > MOST_FORMS or len(later[3]) > MOST_BACKS or len(standing(later)) > MOST_ENTRIES:
        raise TooMany("there would be too many")
    return later


def taken_back(state, name):
    """The state with a name taken back, whatever it is."""
    places, goods, forms, backs, closed, mode = state
    if not is_name(name):
        raise NoName("no name")
    if name in backs:
        return state
    return allowed(state, (places, goods, forms, tuple(sorted(backs + (name,))), closed, mode))


def closed_by(state, day, mode):
    """The state with the days up to this one closed in this mode, whatever they are."""
    places, goods, forms, backs, closed, ahead = state
    if not is_day(day) or mode not in MODES:
        raise NoDay("no day or no mode")
    if closed is not None and day <= closed:
        raise NoDay("the day is closed")
    return (places, goods, forms, backs, day, mode)


def is_day(thing):
    """Whether it is a day, of whatever thing."""
    return is_whole(thing) and 0 <= thing <= LAST_DAY


def late_ones(state):
    """The rows (name, told, moment) of what stands at another moment than told, rising."""
    told = {entry[1]: entry[2] for entry, moment in state[2]}
    # Of a name that stands there is one form alone, so it is this one that told the moment.
    return sorted((entry[1], told[entry[1]], entry[2]) for entry in standing(state) if told[entry[1]] != entry[2])
