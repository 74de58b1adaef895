"""What counts as an integer in an argument."""


def is_plain_int(value):
    # True and False are ints to Python, but not to the document.
    return isinstance(value, int) and not isinstance(value, bool)


def is_int_within(value, low, high):
    return is_plain_int(value) and low <= value <= high
