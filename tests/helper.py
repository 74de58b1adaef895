"""What several tests need: values of every kind that callers may pass, and listings of small exchanges."""

from itertools import combinations, product

from callsthrough.errors import BadShare, CallError
from callsthrough.exchanges import Exchange
from callsthrough.rules import Rule
from callsthrough.shares import Share

SIDES = [(1,), (2,), (1, 1), (2, 1), (1, 2), (2, 2), (3,), (3, 1), (1, 1, 1), (2, 1, 1)]


def nested(wrap, depth=30):
    value = None
    for _ in range(depth):
        value = wrap(value)
    return value


def no_integers():
    """Values of all kinds but integers, each time new ones."""
    return [
        None, True, False, "", "1", "ins",
        (), (1,), (1, 2), ("a", None), [], [1], [1, 2], {}, {1: 2}, {"top": (1,)},
        nested(lambda value: (value,)), nested(lambda value: [value]), nested(lambda value: {0: value}),
        Share(1), Share(1, 2), Exchange((1,), (1,), 1), CallError("x"), BadShare("top"), object(), Share, Exchange,
        Rule(Exchange((1,), (1,), 1), "first"), Rule, "first", "call", "end", ("call", (0, 0)), [("call", (0, 0))],
    ]


def odd_integers():
    return [-(10 ** 5000), -(10 ** 40), -2, -1, 0, 8, 9, 10 ** 40, 10 ** 5000]


def odd_values():
    return no_integers() + odd_integers()


def odd_items(right):
    """Values like a right tuple with one kind spoiled, at each depth: a list for a tuple, a flag for a number."""
    if not isinstance(right, tuple):
        return [bool(right), str(right), None, (right,), [right]]
    found = [list(right), None, dict(enumerate(right)), (right,), [right]]
    for at, item in enumerate(right):
        found += [right[:at] + (odd,) + right[at + 1:] for odd in odd_items(item)]
    return found


def small_exchanges(most_standings=150):
    """Exchanges with so few standings that a test can list them."""
    found = []
    for ins, outs in product(SIDES, SIDES):
        for middles in (1, 2, 3):
            exchange = Exchange(ins, outs, middles)
            if len(all_loads(exchange)) ** middles <= 20 * most_standings:
                if len(all_standings(exchange)) <= most_standings:
                    found.append(exchange)
    return found


def all_loads(exchange):
    """The test's own list of loads, made from all lots of pairs."""
    found = []
    for many in range(5):
        for pairs in combinations(exchange.pairs(), many):
            if len({i for i, _ in pairs}) == len({o for _, o in pairs}) == many:
                found.append(pairs)
    return sorted(found)


def all_standings(exchange):
    """The test's own list of standings, made from all rows of loads."""
    rows = product(all_loads(exchange), repeat=exchange.middles)
    return sorted(row for row in rows if within_doors(exchange, row))


def within_doors(exchange, standing):
    ins, outs = doors_of(exchange, standing)
    return min(ins) >= 0 and min(outs) >= 0


def pairs_of(standing):
    return sorted(sum(standing, ()))


def doors_of(exchange, standing):
    up = pairs_of(standing)
    ins = [doors - len([pair for pair in up if pair[0] == i]) for i, doors in enumerate(exchange.ins)]
    outs = [doors - len([pair for pair in up if pair[1] == o]) for o, doors in enumerate(exchange.outs)]
    return ins, outs


def opens(exchange, standing):
    """The pairs with a free door at both switches."""
    ins, outs = doors_of(exchange, standing)
    return [(i, o) for i, o in exchange.pairs() if ins[i] > 0 and outs[o] > 0]


def frees(standing, pair):
    """The middles without either switch of the pair."""
    i, o = pair
    return [k for k, load in enumerate(standing) if i not in dict(load) and o not in dict(load).values()]


def added(standing, pair, k):
    loads = [list(load) for load in standing]
    loads[k].append(pair)
    return tuple(tuple(sorted(load)) for load in loads)


def taken(standing, pair, k):
    loads = [list(load) for load in standing]
    loads[k].remove(pair)
    return tuple(tuple(load) for load in loads)


def places_of(standing):
    return {(pair, k) for k, load in enumerate(standing) for pair in load}


def shape_of(standing):
    return tuple(sorted(standing))


def some_table(exchange, turn=0):
    """A table of a rule: of the free middles one that depends on the pair and the calls."""
    table = {}
    for shape in sorted({shape_of(standing) for standing in all_standings(exchange)}):
        for pair in opens(exchange, shape):
            free = frees(shape, pair)
            if free:
                table[(shape, pair)] = shape[free[(sum(pair) + len(pairs_of(shape)) + turn) % len(free)]]
    return table


def kinds(value):
    """The kinds within an answer, so that True and 1, or a tuple and a list, differ."""
    if isinstance(value, (tuple, list)):
        return value.__class__, [kinds(item) for item in value]
    if isinstance(value, dict):
        return dict, [(kinds(key), kinds(item)) for key, item in value.items()]
    return value.__class__


def caught(error, work):
    """The error of this very class that the work raises; any other one passes on."""
    try:
        work()
    except error as e:
        assert e.__class__ == error, e.__class__
        return e
    raise AssertionError(f"no {error.__name__} was raised")
