"""Exchanges, standings and rows of deeds as texts, and back."""

from callsthrough.deeds import MOST_DEEDS, check_deeds, deed_fault
from callsthrough.errors import BadText
from callsthrough.exchanges import MOST_DOORS, MOST_MIDDLES, MOST_SWITCHES, Exchange
from callsthrough.standings import check_standing, is_standing


def exchange_text(exchange):
    """Return the written form of an exchange."""
    ins = ",".join([str(doors) for doors in exchange.ins])
    outs = ",".join([str(doors) for doors in exchange.outs])
    return f"{ins}|{outs}|{exchange.middles}"


def standing_text(exchange, standing):
    """Return the written form of a standing."""
    check_standing(exchange, standing)
    return "/".join([_load_text(load) for load in standing])


def _load_text(load):
    if load == ():
        return "."
    return ",".join([_pair_text(pair) for pair in load])


def _pair_text(pair):
    return f"{pair[0]}-{pair[1]}"


def deeds_text(exchange, deeds):
    """Return the written form of a right row of deeds."""
    check_deeds(exchange, deeds)
    if deeds == []:
        return "none"
    return ";".join([_deed_text(word, thing) for word, thing in deeds])


def _deed_text(word, thing):
    if word == "call":
        return f"call {_pair_text(thing)}"
    return f"end {thing}"


# Each reader takes a text apart at its separators and leaves None where a part is no
# written form. A number has just one form, so there is just one text for each thing.
def read_exchange(text):
    """Return the exchange with this written form."""
    parts = _parts(text, "|")
    if len(parts) != 3:
        raise BadText(text)
    ins, outs = _read_side(parts[0]), _read_side(parts[1])
    middles = _read_number(parts[2], 1, MOST_MIDDLES)
    if ins is None or outs is None or middles is None:
        raise BadText(text)
    return Exchange(ins, outs, middles)


def _parts(text, separator):
    """Return the parts of a text, or none if the value is no string."""
    if not isinstance(text, str):
        return []
    return text.split(separator)


def _read_number(text, low, high):
    """Return the number from low to high with this written form, or None."""
    # Other digits than the ten of ASCII are digits to Python, too.
    if not text.isascii() or not text.isdigit() or len(text) > len(str(high)):
        return None
    number = int(text)
    return number if str(number) == text and low <= number <= high else None


def _read_side(text):
    doors = [_read_number(part, 1, MOST_DOORS) for part in text.split(",")]
    if None in doors or len(doors) > MOST_SWITCHES:
        return None
    return tuple(doors)


def read_standing(exchange, text):
    """Return the standing with this written form."""
    standing = tuple([_read_load(part) for part in _parts(text, "/")])
    if not is_standing(exchange, standing):
        raise BadText(text)
    return standing


def _read_load(text):
    if text == ".":
        return ()
    return tuple([_read_pair(part) for part in text.split(",")])


def _read_pair(text):
    return tuple([_read_number(part, 0, MOST_SWITCHES - 1) for part in text.split("-")])


def read_deeds(exchange, text):
    """Return the right row of deeds with this written form."""
    if text == "none":
        return []
    deeds = [_read_deed(part) for part in _parts(text, ";")]
    if deeds == [] or deed_fault(exchange, deeds) is not None:
        raise BadText(text)
    return deeds


def _read_deed(text):
    word, _, thing = text.partition(" ")
    if word == "call":
        return (word, _read_pair(thing))
    return (word, _read_number(thing, 0, MOST_DEEDS - 1))
