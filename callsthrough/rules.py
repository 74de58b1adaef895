"""Rules that pick a middle for each call and never move a call."""

from callsthrough.deeds import check_deeds
from callsthrough.errors import BadRule
from callsthrough.loads import is_load
from callsthrough.places import free_for, open_pairs, placed, unplaced
from callsthrough.standings import all_shapes, check_doors, check_pair, check_standing, empty


class Rule:
    """A rule for one exchange: one of the words, or a table of loads."""

    WORDS = ("first", "last", "fullest", "emptiest", "busy")

    def __init__(self, exchange, choice):
        self.exchange = exchange
        if isinstance(choice, dict):
            self.word = None
            self.table = _copied_table(exchange, choice)
        elif is_word(choice):
            self.word = choice
            self.table = None
        else:
            raise BadRule(choice)

    def __call__(self, standing, pair):
        check_standing(self.exchange, standing)
        check_pair(self.exchange, pair)
        check_doors(self.exchange, standing, pair)
        return self.pick(standing, pair)

    def pick(self, standing, pair):
        """Return the middle for the pair, or None, without any check of the arguments."""
        free = free_for(standing, pair)
        if free == []:
            return None
        if self.word is not None:
            return _pick_by_word(self.word, standing, free)
        load = self.table[(tuple(sorted(standing)), pair)]
        return [k for k in free if standing[k] == load][0]


def is_word(choice):
    return isinstance(choice, str) and choice in Rule.WORDS


def _pick_by_word(word, standing, free):
    # Of several middles, min and max take the first.
    if word == "first":
        return free[0]
    if word == "last":
        return free[-1]
    if word == "fullest":
        return max(free, key=lambda k: len(standing[k]))
    if word == "emptiest":
        return min(free, key=lambda k: len(standing[k]))
    return ([k for k in free if standing[k] != ()] + free)[0]


def _copied_table(exchange, choice):
    """Return the dict as a new one, or raise the error of the first bad key."""
    table = {}
    for shape in all_shapes(exchange):
        for pair in open_pairs(exchange, shape):
            loads = [shape[k] for k in free_for(shape, pair)]
            if loads == []:
                continue
            load = choice.get((shape, pair))
            if not is_load(exchange, load) or load not in loads:
                raise BadRule((shape, pair))
            table[(shape, pair)] = load
    if len(choice) > len(table):
        raise BadRule(())
    return table


def played(rule, deeds):
    """Play a right row and return for each deed the middle that was picked and the standing behind it."""
    check_deeds(rule.exchange, deeds)
    standing = empty(rule.exchange)
    calls = []
    found = []
    for word, thing in deeds:
        k = None
        if word == "call":
            k = rule.pick(standing, thing)
            calls.append((thing, k))
            if k is not None:
                standing = placed(standing, thing, k)
        else:
            pair, old = calls[thing]
            if old is not None:
                standing = unplaced(standing, pair, old)
        found.append((k, standing))
    return found
