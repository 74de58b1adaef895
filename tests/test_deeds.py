import unittest
from itertools import product

from callsthrough import deeds
from callsthrough.deeds import deed_fault
from callsthrough.exchanges import Exchange
from callsthrough.shares import Share
from tests.helper import kinds, nested, odd_values

EXCHANGE = Exchange((2, 1), (1, 2), 1)
RIGHT = [
    ("call", (0, 0)), ("call", (1, 1)), ("call", (0, 1)), ("end", 1), ("call", (1, 1)), ("end", 0), ("end", 3),
    ("call", (1, 0)), ("end", 2), ("call", (0, 1)), ("call", (0, 1)), ("end", 5),
]


def no_deeds():
    """Items that are a deed nowhere."""
    found = [
        None, "call", ("call",), ("end",), ("call", (0, 0), 1), ("end", 0, 0), ["call", (0, 0)], ["end", 0],
        ("Call", (0, 0)), ("", (0, 0)), ("let", (0, 0)), (b"call", (0, 0)), ("ends", 0), (None, 0), (0, "end"),
        (("call",), (0, 0)), (["end"], 0), (True, (0, 0)), (Share(1), 0), (EXCHANGE, 0), ({}, 0),
        ("end", (0, 0)), ("call", 0), ("end", None), ("end", "0"), ("end", [0]), ("end", -1), ("end", 200),
        ("end", True), ("end", False), ("end", 10 ** 40), ("end", 10 ** 5000), ("end", -10 ** 40), ("end", Share(0)),
        ((0, 0), "call"), (0, 0), ("call", ("call", (0, 0))), nested(lambda value: ("call", value)),
        nested(lambda value: ("end", [value])),
    ]
    pairs = [
        [0, 0], (0,), (0, 0, 0), (2, 0), (0, 2), (-1, 0), (0, -1), (True, 1), (1, True), (False, 0), ("0", "0"), "00",
        (0, None), None, {}, {0: 0}, (10 ** 40, 0), ((0, 0),), ([0], [0]), (Share(0), 0),
    ]
    return found + [("call", pair) for pair in pairs] + [value for value in odd_values() if value != ("call", (0, 0))]


def fault_by_recounting(exchange, row):
    """The first bad index of a row of deeds of the right kinds, with all calls counted anew at each deed."""
    for at, (word, thing) in enumerate(row):
        came = [pair for before, pair in row[:at] if before == "call"]
        ended = [n for before, n in row[:at] if before == "end"]
        up = [pair for n, pair in enumerate(came) if n not in ended]
        if word == "call":
            ins = len([pair for pair in up if pair[0] == thing[0]])
            outs = len([pair for pair in up if pair[1] == thing[1]])
            if ins >= exchange.ins[thing[0]] or outs >= exchange.outs[thing[1]]:
                return at
        elif not 0 <= thing < len(came) or thing in ended:
            return at
    return None


class DeedsTest(unittest.TestCase):

    def test_example_of_the_interface(self):
        one = Exchange((1,), (1,), 1)
        self.assertEqual(deed_fault(one, [("call", (0, 0)), ("end", 0), ("end", 0)]), 2)

    def test_right_rows(self):
        for length in range(len(RIGHT) + 1):
            self.assertIsNone(deed_fault(EXCHANGE, RIGHT[:length]))
        self.assertIsNone(deed_fault(exchange=EXCHANGE, deeds=RIGHT))

    def test_every_call_counts_as_let(self):
        # One middle: the second call would be barred, and has its number and its doors all the same.
        exchange = Exchange((2, 2), (2, 2), 1)
        row = [("call", (0, 0)), ("call", (0, 1)), ("end", 1), ("call", (0, 1)), ("end", 2), ("end", 0)]
        self.assertIsNone(deed_fault(exchange, row))
        self.assertEqual(deed_fault(exchange, row[:2] + [("call", (0, 1))]), 2)
        self.assertEqual(deed_fault(exchange, row[:2] + [("call", (1, 0)), ("call", (1, 0))]), 3)
        self.assertEqual(deed_fault(exchange, row[:3] + [("end", 1)]), 3)

    def test_one_deed_spoiled_at_each_index(self):
        for at in range(len(RIGHT) + 1):
            for value in no_deeds():
                row = RIGHT[:at] + [value] + RIGHT[at:]
                self.assertEqual(deed_fault(EXCHANGE, row), at, value)

    def test_unknown_ended_and_later_numbers(self):
        for n, wanted in [(0, 3), (1, None), (2, None), (3, 3), (4, 3), (10 ** 30, 3), (-1, 3), (-3, 3)]:
            row = [("call", (0, 0)), ("call", (0, 1)), ("end", 0), ("end", n)]
            if n == 2:
                row.insert(1, ("call", (1, 1)))
            self.assertEqual(deed_fault(EXCHANGE, row), wanted, n)
        self.assertEqual(deed_fault(EXCHANGE, [("end", 0), ("call", (0, 0))]), 0)
        self.assertEqual(deed_fault(EXCHANGE, [("call", (0, 0)), ("call", (0, 1)), ("end", True)]), 2)
        self.assertEqual(deed_fault(EXCHANGE, [("call", (0, 0)), ("end", False)]), 1)

    def test_calls_without_a_door(self):
        self.assertEqual(deed_fault(EXCHANGE, [("call", (1, 1)), ("call", (1, 0))]), 1)
        self.assertEqual(deed_fault(EXCHANGE, [("call", (0, 0)), ("call", (1, 0))]), 1)
        self.assertEqual(deed_fault(EXCHANGE, [("call", (0, 1)), ("call", (0, 1)), ("call", (0, 0))]), 2)

    def test_all_short_rows(self):
        for exchange in [Exchange((1, 2), (2,), 1), Exchange((1, 1), (1, 1), 2), Exchange((2,), (3,), 1)]:
            some = [("call", pair) for pair in exchange.pairs()] + [("end", n) for n in range(3)]
            for length in range(6):
                for row in product(some, repeat=length):
                    self.assertEqual(deed_fault(exchange, list(row)), fault_by_recounting(exchange, row))

    def test_no_list(self):
        for value in odd_values() + [tuple(RIGHT), dict(enumerate(RIGHT))]:
            if not isinstance(value, list):
                self.assertEqual(deed_fault(EXCHANGE, value), -1)

    def test_200_and_201_items(self):
        row = [("call", (0, 0)), ("end", 0)]
        long = [deed for n in range(101) for deed in (("call", (0, 0)), ("end", n))]
        self.assertIsNone(deed_fault(EXCHANGE, long[:199]))
        self.assertIsNone(deed_fault(EXCHANGE, long[:200]))
        self.assertEqual(deed_fault(EXCHANGE, long[:201]), -1)
        self.assertEqual(deed_fault(EXCHANGE, long), -1)
        self.assertEqual(deed_fault(EXCHANGE, [None] * 200), 0)
        self.assertEqual(deed_fault(EXCHANGE, [None] * 201), -1)
        self.assertEqual(deed_fault(EXCHANGE, long[:199] + [("end", 98)]), 199)
        self.assertIsNone(deed_fault(EXCHANGE, row))

    def test_kinds_of_the_answers(self):
        for row in ([("end", 0)], [("call", (0, 0)), None], None):
            self.assertEqual(kinds(deed_fault(EXCHANGE, row)), int)

    def test_the_row_stays_as_it_was(self):
        row = list(RIGHT) + [["call", [0, 0]], {0: [1]}]
        deed_fault(EXCHANGE, row)
        self.assertEqual(row, RIGHT + [["call", [0, 0]], {0: [1]}])
        self.assertEqual((EXCHANGE.ins, EXCHANGE.outs), ((2, 1), (1, 2)))

    def test_the_function_is_defined_in_the_module(self):
        self.assertEqual(deeds.deed_fault.__module__, "callsthrough.deeds")


if __name__ == "__main__":
    unittest.main()
