"""What a diary of calls tells about the middles."""

from callsthrough.deeds import MOST_DEEDS, Track
from callsthrough.errors import BadDiary, NoDoor
from callsthrough.numbered import shape_of_numbered, ways_to_place, without_number
from callsthrough.places import free_for
from callsthrough.standings import check_number_of_shapes, check_pair, empty


def can_be(exchange, diary):
    """Tell whether some way of picking fits the diary."""
    _check_diary(exchange, diary)
    return _numbered_that_fit(exchange, diary) != []


def shapes_that_fit(exchange, diary):
    """Return the ascending list of the shapes behind the last deed, over all ways that fit."""
    _check_diary(exchange, diary)
    shapes = [shape_of_numbered(loads) for loads in _numbered_that_fit(exchange, diary)]
    return sorted(set(shapes))


def foretold(exchange, diary, pair):
    """Return two flags: whether a call of the pair may be let now, and whether it may be barred."""
    track = _check_diary(exchange, diary)
    check_pair(exchange, pair)
    if track.ins[pair[0]] == 0:
        raise NoDoor("in")
    if track.outs[pair[1]] == 0:
        raise NoDoor("out")
    let = [free_for(loads, pair) != [] for loads in _numbered_that_fit(exchange, diary)]
    return True in let, False in let


def _check_diary(exchange, diary):
    """Return the free doors behind the diary, as if every call had been let."""
    if not isinstance(diary, list) or len(diary) > MOST_DEEDS:
        raise BadDiary(-1)
    track = Track(exchange)
    for at, item in enumerate(diary):
        if not _is_noted(item) or not track.take(item[0]):
            raise BadDiary(at)
    return track


def _is_noted(item):
    """Tell whether the value is a tuple (deed, told), but for the deed, which may be none."""
    if not isinstance(item, tuple) or len(item) != 2:
        return False
    deed, told = item
    if told == "let" or told == "barred":
        return isinstance(deed, tuple) and deed[:1] == ("call",)
    return told is None


def _numbered_that_fit(exchange, diary):
    """Return the list of the numbered standings, but for the names of the middles, over all ways that fit."""
    check_number_of_shapes(exchange)
    ways = [empty(exchange)]
    came = 0
    for (word, thing), told in diary:
        if word == "call":
            laters = [later for loads in ways for later in _after_call(loads, thing, came, told)]
            came += 1
        else:
            laters = [without_number(loads, thing) for loads in ways]
        ways = sorted(set([tuple(sorted(loads)) for loads in laters]))
    return ways


def _after_call(loads, pair, n, told):
    """Return the list of the numbered standings that a call may lead to, if it goes as is told."""
    later = [let for _, let in ways_to_place(loads, pair, n)]
    if later == [] and told != "let":
        return [loads]
    return [] if told == "barred" else later
