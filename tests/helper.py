"""What several tests need: values of every kind that callers may pass, and listings of small exchanges."""

from functools import lru_cache
from itertools import combinations, permutations, product
from random import Random

from callsthrough.errors import BadShare, CallError
from callsthrough.exchanges import Exchange
from callsthrough.rules import Rule
from callsthrough.shares import Share

SIDES = [(1,), (2,), (1, 1), (2, 1), (1, 2), (2, 2), (3,), (3, 1), (1, 1, 1), (2, 1, 1)]


def nested(wrap, depth=30):
    value = None
    for _ in range(depth):
        value = wrap(value)
    return value


def no_integers():
    """Values of all kinds but integers, each time new ones."""
    return [
        None, True, False, "", "1", "ins",
        (), (1,), (1, 2), ("a", None), [], [1], [1, 2], {}, {1: 2}, {"top": (1,)},
        nested(lambda value: (value,)), nested(lambda value: [value]), nested(lambda value: {0: value}),
        Share(1), Share(1, 2), Exchange((1,), (1,), 1), CallError("x"), BadShare("top"), object(), Share, Exchange,
        Rule(Exchange((1,), (1,), 1), "first"), Rule, "first", "call", "end", ("call", (0, 0)), [("call", (0, 0))],
    ]


def odd_integers():
    return [-(10 ** 5000), -(10 ** 40), -2, -1, 0, 8, 9, 10 ** 40, 10 ** 5000]


def odd_values():
    return no_integers() + odd_integers()


def odd_items(right):
    """Values like a right tuple with one kind spoiled, at each depth: a list for a tuple, a flag for a number."""
    if not isinstance(right, tuple):
        return [bool(right), str(right), None, (right,), [right]]
    found = [list(right), None, dict(enumerate(right)), (right,), [right]]
    for at, item in enumerate(right):
        found += [right[:at] + (odd,) + right[at + 1:] for odd in odd_items(item)]
    return found


def small_exchanges(most_standings=150):
    """Exchanges with so few standings that a test can list them."""
    found = []
    for ins, outs in product(SIDES, SIDES):
        for middles in (1, 2, 3):
            exchange = Exchange(ins, outs, middles)
            if len(all_loads(exchange)) ** middles <= 20 * most_standings:
                if len(all_standings(exchange)) <= most_standings:
                    found.append(exchange)
    return found


def all_loads(exchange):
    """The test's own list of loads, made from all lots of pairs."""
    found = []
    for many in range(5):
        for pairs in combinations(exchange.pairs(), many):
            if len({i for i, _ in pairs}) == len({o for _, o in pairs}) == many:
                found.append(pairs)
    return sorted(found)


def all_standings(exchange):
    """The test's own list of standings, made from all rows of loads."""
    rows = product(all_loads(exchange), repeat=exchange.middles)
    return sorted(row for row in rows if within_doors(exchange, row))


def within_doors(exchange, standing):
    ins, outs = doors_of(exchange, standing)
    return min(ins) >= 0 and min(outs) >= 0


def pairs_of(standing):
    return sorted(sum(standing, ()))


def doors_of(exchange, standing):
    up = pairs_of(standing)
    ins = [doors - len([pair for pair in up if pair[0] == i]) for i, doors in enumerate(exchange.ins)]
    outs = [doors - len([pair for pair in up if pair[1] == o]) for o, doors in enumerate(exchange.outs)]
    return ins, outs


def opens(exchange, standing):
    """The pairs with a free door at both switches."""
    ins, outs = doors_of(exchange, standing)
    return [(i, o) for i, o in exchange.pairs() if ins[i] > 0 and outs[o] > 0]


def frees(standing, pair):
    """The middles without either switch of the pair."""
    i, o = pair
    return [k for k, load in enumerate(standing) if i not in dict(load) and o not in dict(load).values()]


def added(standing, pair, k):
    loads = [list(load) for load in standing]
    loads[k].append(pair)
    return tuple(tuple(sorted(load)) for load in loads)


def taken(standing, pair, k):
    loads = [list(load) for load in standing]
    loads[k].remove(pair)
    return tuple(tuple(load) for load in loads)


def places_of(standing):
    return {(pair, k) for k, load in enumerate(standing) for pair in load}


def shape_of(standing):
    return tuple(sorted(standing))


def shapes_of(exchange):
    """The shapes by the test's own listing."""
    return sorted({shape_of(standing) for standing in all_standings(exchange)})


def nexts(shape, pair):
    return sorted({shape_of(added(shape, pair, k)) for k in frees(shape, pair)})


def ends(shape):
    """The ends (pair, load) of a shape with the shapes behind them."""
    return {(pair, load): shape_of(taken(shape, pair, k)) for k, load in enumerate(shape) for pair in load}


def moves_from(exchange, shape):
    """The calls of open pairs and the ends, as a foe may do them."""
    return [("call", pair) for pair in opens(exchange, shape)] + [("end", *end) for end in sorted(ends(shape))]


def stands_among(value, rights):
    """Whether the value is one of the right ones, with the very kinds that these have."""
    return any(kinds(value) == kinds(right) and value == right for right in rights)


def shapes_up_to(exchange, most):
    """The shapes by the test's own listing, or None if there are more than `most`."""
    known, ring = {((),) * exchange.middles}, [((),) * exchange.middles]
    while ring:
        shape = ring.pop()
        for pair in opens(exchange, shape):
            for later in nexts(shape, pair):
                if later not in known:
                    known.add(later)
                    ring.append(later)
        if len(known) > most:
            return None
    return sorted(known)


def foe_fault_by_words(exchange, shapes, ranks, moves):
    """The faults of the papers of a foe, clause by clause; the shapes are all shapes, ascending."""
    if not isinstance(ranks, dict) or not isinstance(moves, dict):
        return ("form",)
    if ((),) * exchange.middles not in ranks:
        return ("empty",)
    for shape in shapes:
        if shape in ranks and (kinds(ranks[shape]) is not int or ranks[shape] < 0):
            return ("rank", shape)
    for shape in shapes:
        if shape not in ranks:
            continue
        move = moves.get(shape)
        if not stands_among(move, moves_from(exchange, shape)):
            return ("move", shape)
        for after in nexts(shape, move[1]) if move[0] == "call" else [ends(shape)[move[1:]]]:
            if after not in ranks or ranks[after] >= ranks[shape]:
                return ("step", shape, after)
    return None


def some_table(exchange, turn=0):
    """A table of a rule: of the free middles one that depends on the pair and the calls."""
    table = {}
    for shape in sorted({shape_of(standing) for standing in all_standings(exchange)}):
        for pair in opens(exchange, shape):
            free = frees(shape, pair)
            if free:
                table[(shape, pair)] = shape[free[(sum(pair) + len(pairs_of(shape)) + turn) % len(free)]]
    return table


def kinds(value):
    """The kinds within an answer, so that True and 1, or a tuple and a list, differ."""
    if isinstance(value, (tuple, list)):
        return value.__class__, [kinds(item) for item in value]
    if isinstance(value, dict):
        return dict, [(kinds(key), kinds(item)) for key, item in value.items()]
    return value.__class__


def rules_of_2000_and_2001():
    """Two rules under which just so many standings come: "first" as a table, but for two entries each."""
    exchange = Exchange((3, 3, 2, 1), (3, 1), 4)
    first = {}
    for shape in shapes_up_to(exchange, 1000):
        for pair in opens(exchange, shape):
            if frees(shape, pair):
                first[(shape, pair)] = shape[frees(shape, pair)[0]]
    let, over = dict(first), dict(first)
    let[(((), ((0, 0),), ((1, 0),), ((1, 0),)), (3, 1))] = ((1, 0),)
    let[(((), (), ((1, 0),), ((3, 0),)), (1, 1))] = ((3, 0),)
    over[(((), (), (), ((2, 0),)), (3, 1))] = ((2, 0),)
    over[(((), ((2, 0),), ((2, 0),), ((3, 0),)), (1, 1))] = ((2, 0),)
    return Rule(exchange, let), Rule(exchange, over)


# Exchanges with at most 100 shapes and middles enough for all calls within the doors.
GAMES = [
    Exchange(ins, outs, middles) for ins, outs, middles in [
        ((1,), (1,), 1), ((2,), (2,), 2), ((2, 1), (2, 1), 2), ((2, 1), (2, 1), 3), ((2, 2), (2, 2), 2),
        ((2, 2), (2, 2), 3), ((2, 2), (2, 1), 2), ((1, 2), (2, 2), 2), ((3, 2), (3, 1), 3), ((3, 1), (2, 3), 3),
        ((3, 3), (1, 3), 3), ((3,), (3, 1), 3), ((3, 1), (3, 1), 4), ((2, 1, 1), (2, 1), 2), ((4, 2), (4, 1), 4),
        ((3, 2), (2, 1), 3), ((1, 1, 1), (1, 1, 1), 1), ((3, 3), (3, 2), 3), ((2, 2, 1), (2, 2), 2),
        ((4, 2), (2, 4), 4), ((4, 4), (4, 1), 4), ((4, 4), (3, 2), 4), ((3, 3, 1), (3, 1), 3),
    ]
]
# The same, but with too few middles, or with more than 100 shapes.
NO_ROOM = [Exchange((2,), (2,), 1), Exchange.square(4, 4, 3), Exchange.square(2, 3, 2), Exchange((1, 1, 1, 1), (4,), 3)]
TOO_WIDE = [
    Exchange((2, 2), (1, 1, 1, 1), 2), Exchange.square(4, 4, 7), Exchange.square(4, 1, 1), Exchange.square(3, 3, 3),
]


def price_by_words(shape, later):
    """The least number of places given up, over all ways to name the middles of the later shape."""
    return min(len(places_of(shape) - places_of(named)) for named in set(permutations(later)))


def below(shape):
    """The shapes that a shape becomes when calls end, also none or all."""
    parts = [[part for many in range(len(load) + 1) for part in combinations(load, many)] for load in shape]
    return {shape_of(loads) for loads in product(*parts)}


def lets(exchange):
    """For each shape and open pair a dict with the prices of the shapes that let the call."""
    shapes = shapes_up_to(exchange, 1000)
    found = {}
    for shape in shapes:
        for pair in opens(exchange, shape):
            wanted = sorted(pairs_of(shape) + [pair])
            laters = [later for later in shapes if pairs_of(later) == wanted]
            found[(shape, pair)] = {later: price_by_words(shape, later) for later in laters}
    return found


def worths_by_words(exchange, most):
    """A list with the dict V(n, ..) for each n from 0 to `most`."""
    return _worths(exchange.ins, exchange.outs, exchange.middles, most)


@lru_cache(maxsize=None)
def _worths(ins, outs, middles, most):
    exchange = Exchange(ins, outs, middles)
    shapes, letting = shapes_up_to(exchange, 1000), lets(exchange)
    under = {shape: below(shape) for shape in shapes}
    rounds = [{shape: 0 for shape in shapes}]
    for _ in range(most):
        least = {}
        for (shape, pair), prices in letting.items():
            moves = min(price + rounds[-1][later] for later, price in prices.items())
            least[shape] = max(moves, least.get(shape, 0))
        rounds.append({shape: max(least.get(lower, 0) for lower in under[shape]) for shape in shapes})
    return rounds


def cycle_by_words(exchange, most=40):
    """Numbers (n, c, d) with V(n + c, S) = V(n, S) + d for all S, by the first rounds."""
    rounds = worths_by_words(exchange, most)
    none = ((),) * exchange.middles
    known = {}
    for n, worths in enumerate(rounds):
        key = tuple(worths[shape] - worths[none] for shape in sorted(worths))
        if key in known:
            return known[key], n - known[key], worths[none] - rounds[known[key]][none]
        known[key] = n
    raise AssertionError("no cycle in so few rounds")


def some_row(exchange, many, turn=0, calls=0.6):
    """A right row of so many deeds that depends on the turn; the greater `calls`, the more calls are up."""
    chance = Random(f"{exchange.ins} {exchange.outs} {many} {turn}")
    ins, outs, up, came, row = list(exchange.ins), list(exchange.outs), {}, 0, []
    while len(row) < many:
        pairs = [(i, o) for i, o in exchange.pairs() if ins[i] > 0 and outs[o] > 0]
        if pairs and (not up or chance.random() < calls):
            pair, step = chance.choice(pairs), -1
            row.append(("call", pair))
            up[came] = pair
            came += 1
        else:
            n = chance.choice(sorted(up))
            pair, step = up.pop(n), 1
            row.append(("end", n))
        ins[pair[0]] += step
        outs[pair[1]] += step
    return row


def caught(error, work):
    """The error of this very class that the work raises; any other one passes on."""
    try:
        work()
    except error as e:
        assert e.__class__ == error, e.__class__
        return e
    raise AssertionError(f"no {error.__name__} was raised")
