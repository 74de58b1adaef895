"""Exact fractions."""

from math import gcd

from callsthrough.errors import BadShare
from callsthrough.kinds import is_plain_int


def _is_operand(value):
    return isinstance(value, Share) or is_plain_int(value)


def _parts(value):
    if isinstance(value, Share):
        return value.top, value.bottom
    return value, 1


class Share:
    """The fraction top / bottom, in lowest terms and with bottom above 0."""

    def __init__(self, top, bottom=1):
        if not is_plain_int(top):
            raise BadShare("top")
        if not is_plain_int(bottom) or bottom == 0:
            raise BadShare("bottom")
        common = gcd(top, bottom)
        if bottom < 0:
            common = -common
        self.top = top // common
        self.bottom = bottom // common

    def __eq__(self, other):
        return isinstance(other, Share) and self.top == other.top and self.bottom == other.bottom

    def __add__(self, other):
        if not _is_operand(other):
            return NotImplemented
        top, bottom = _parts(other)
        return Share(self.top * bottom + top * self.bottom, self.bottom * bottom)

    def __radd__(self, other):
        return self + other

    def __sub__(self, other):
        if not _is_operand(other):
            return NotImplemented
        return self + -other

    def __mul__(self, other):
        if not _is_operand(other):
            return NotImplemented
        top, bottom = _parts(other)
        return Share(self.top * top, self.bottom * bottom)

    def __rmul__(self, other):
        return self * other

    def __neg__(self):
        return Share(-self.top, self.bottom)

    def __abs__(self):
        return Share(abs(self.top), self.bottom)

    def below(self, other):
        """Tell whether this share is less than a share or an integer."""
        top, bottom = _parts(other)
        # Both bottoms are above 0, so the products compare as the fractions do.
        return self.top * bottom < top * self.bottom
