import unittest
from itertools import product

from callsthrough import texts
from callsthrough.errors import BadDeed, BadExchange, BadText, NoStanding
from callsthrough.exchanges import Exchange
from callsthrough.deeds import deed_fault
from callsthrough.standings import is_standing
from callsthrough.texts import (
    deeds_text, exchange_text, read_deeds, read_exchange, read_standing, standing_text,
)
from tests.helper import all_standings, caught, kinds, odd_items, odd_values, small_exchanges, some_row
from tests.test_standings import EXCHANGE as WIDE
from tests.test_standings import NO_STANDINGS

SQUARE = Exchange.square(2, 2, 2)
SIGNS = "0123456789 ,;-./|+_calendonx\n\t" + "\u0660\u0661\u00b2\u00bd\uff11\u2212\u00a0"


def spoiled(text):
    """The texts with one sign left out, put in or changed."""
    found = {text[:at] + text[at + 1:] for at in range(len(text))}
    found |= {text[:at] + sign + text[at:] for at in range(len(text) + 1) for sign in SIGNS}
    found |= {text[:at] + sign + text[at + 1:] for at in range(len(text)) for sign in SIGNS}
    return found - {text}


class RoundTest(unittest.TestCase):

    def assert_round(self, value, write, read):
        text = write(value)
        self.assertIs(text.__class__, str)
        back = read(text)
        self.assertEqual(back, value)
        self.assertEqual(kinds(back), kinds(value))
        self.assertEqual(write(back), text)
        return text

    def assert_spoiled(self, text, write, read):
        """Each spoiled text is the text of another value, or is refused; return how many are texts."""
        many = 0
        for other in sorted(spoiled(text)):
            try:
                value = read(other)
            except BadText as e:
                self.assertIs(e.__class__, BadText)
                self.assertIs(e.thing, other)
                continue
            self.assertEqual(write(value), other)
            many += 1
        return many

    def test_examples_of_the_interface(self):
        exchange = Exchange((1, 2), (2, 1), 3)
        told = (exchange_text(exchange), read_standing(exchange, "./0-0,1-1/1-0"))
        self.assertEqual(told, ("1,2|2,1|3", ((), ((0, 0), (1, 1)), ((1, 0),))))

    def test_examples_of_the_points(self):
        self.assertEqual(exchange_text(Exchange((2, 2), (1, 3), 4)), "2,2|1,3|4")
        standing = (((0, 0), (1, 1)), (), ((0, 1),))
        self.assertEqual(standing_text(Exchange.square(2, 2, 3), standing), "0-0,1-1/./0-1")
        self.assertEqual(deeds_text(SQUARE, [("call", (0, 1)), ("end", 0)]), "call 0-1;end 0")
        self.assertEqual(deeds_text(SQUARE, []), "none")
        self.assertEqual(read_deeds(SQUARE, "none"), [])

    def test_exchanges(self):
        sides = [(1,), (4,), (1, 1), (2, 3), (4, 4, 4), (1, 2, 3, 4), (4, 4, 4, 4)]
        for ins, outs, middles in product(sides, sides, range(1, 8)):
            exchange = Exchange(ins, outs, middles)
            text = self.assert_round(exchange, exchange_text, read_exchange)
            self.assertEqual(text, "|".join([",".join(map(str, ins)), ",".join(map(str, outs)), str(middles)]))

    def test_standings(self):
        told = set()
        for exchange in small_exchanges(60):
            for standing in all_standings(exchange):
                told.add(self.assert_round(
                    standing, lambda value: standing_text(exchange, value), lambda text: read_standing(exchange, text),
                ))
        self.assertIn("./.", told)
        full = tuple(tuple((i, (i + turn) % 4) for i in range(4)) for turn in range(4)) + ((),) * 3
        great = Exchange.square(4, 4, 7)
        self.assertEqual(standing_text(great, full)[:32], "0-0,1-1,2-2,3-3/0-1,1-2,2-3,3-0/")
        self.assertEqual(read_standing(great, standing_text(great, full)), full)

    def test_rows_of_deeds(self):
        for exchange in [SQUARE, Exchange((1,), (1,), 1), Exchange.square(4, 4, 7), Exchange((3, 1, 2), (4, 1), 2)]:
            for many, turn in product((1, 2, 5, 30, 200), range(3)):
                deeds = some_row(exchange, many, turn)
                text = self.assert_round(
                    deeds, lambda value: deeds_text(exchange, value), lambda text: read_deeds(exchange, text),
                )
                self.assertEqual(len(text.split(";")), many)

    def test_rows_of_200_and_201_deeds(self):
        exchange = Exchange.square(4, 4, 1)
        deeds = []
        for n in range(100):
            deeds += [("call", (n % 4, n % 3)), ("end", n)]
        text = deeds_text(exchange, deeds)
        self.assertTrue(text.endswith(";call 3-0;end 99"))
        self.assertEqual(read_deeds(exchange, text), deeds)
        for more in (text + ";call 0-0", "call 0-0;" + text, ";".join(["call 0-0"] * 200)):
            self.assertIs(caught(BadText, lambda: read_deeds(exchange, more)).thing, more)
        self.assertEqual(caught(BadDeed, lambda: deeds_text(exchange, deeds + deeds[:1])).at, -1)
        # The most calls that a row can have: 16 of them are up at its end.
        ends = [("end", n) for n in range(92)]
        calls = [("call", (n // 4 % 4, n % 4)) for n in range(108)]
        row = calls[:16]
        for n in range(92):
            row += [ends[n], calls[16 + n]]
        text = deeds_text(exchange, row)
        self.assertEqual((len(row), text.count("call")), (200, 108))
        self.assertIn(";end 91;call 2-3", text)
        self.assertEqual(read_deeds(exchange, text), row)

    def test_spoiled_exchanges(self):
        for ins, outs, middles in [
            ((2, 2), (1, 3), 4), ((1,), (1,), 1), ((4, 3, 2, 1), (1,), 7), ((1, 1), (4, 4, 4, 4), 2),
        ]:
            text = exchange_text(Exchange(ins, outs, middles))
            self.assertGreater(self.assert_spoiled(text, exchange_text, read_exchange), 5)

    def test_spoiled_standings(self):
        told = []
        for exchange, standing in [
            (Exchange.square(2, 2, 3), (((0, 0), (1, 1)), (), ((0, 1),))), (SQUARE, ((), ())),
            (Exchange((1,), (1,), 1), (((0, 0),),)),
            (Exchange((4, 1, 1), (1, 2, 2, 1), 2), (((0, 1), (1, 3)), ((0, 2),))),
        ]:
            told.append(self.assert_spoiled(
                standing_text(exchange, standing), lambda value: standing_text(exchange, value),
                lambda text: read_standing(exchange, text),
            ))
        self.assertGreater(sum(told), 5, told)

    def test_spoiled_rows(self):
        told = []
        for exchange, many in [(SQUARE, 0), (SQUARE, 1), (SQUARE, 6), (Exchange((3, 1, 2), (4, 1), 2), 30)]:
            told.append(self.assert_spoiled(
                deeds_text(exchange, some_row(exchange, many)), lambda value: deeds_text(exchange, value),
                lambda text: read_deeds(exchange, text),
            ))
        self.assertEqual(told[0], 0)
        self.assertGreater(sum(told), 10, told)


class BadTextTest(unittest.TestCase):

    def assert_bad(self, read, bad):
        for text in bad:
            self.assertIs(caught(BadText, lambda: read(text)).thing, text)

    def test_exchanges(self):
        self.assertEqual(read_exchange("2,2|1,3|4"), Exchange((2, 2), (1, 3), 4))
        self.assert_bad(read_exchange, [
            "", "|", "||", "2|2", "2|2|", "|2|2", "2||2", "2|2|2|", "|2|2|2", "2|2|2|2", "2|2|2\n", "\n2|2|2", " 2|2|2",
            "2 |2|2", "2|2|2 ", "2, 2|1|1", "02|1|1", "2|1|01", "2|01|1", "2|+1|1", "2|-1|1", "2|1|-1", "2|1|+1",
            "0|1|1", "5|1|1", "1|0|1", "1|5|1", "1|1|0", "1|1|8", "1|1|10", "1,1,1,1,1|1|1", "1|1,1,1,1,1|1",
            ",1|1|1", "1,|1|1",
            "1,,1|1|1", "1|1,|1", "1;1|1|1", "1|1|1,1", "1.0|1|1", "1|1|1.", "1_|1|1", "\u0661|1|1", "1|\u00b2|1",
            "1|1|\uff11", "1|1|" + "1" * 5000, "1" * 5000 + "|1|1", "none", ".", "1/1/1", "(1,)|(1,)|1",
        ])

    def test_standings(self):
        read = lambda text: read_standing(SQUARE, text)
        self.assertEqual(read("0-0,1-1/0-1"), (((0, 0), (1, 1)), ((0, 1),)))
        self.assert_bad(read, [
            "", "/", ".", "./", "/.", "././.", "./.\n", " ./.", "./ .", "../.", "./,", "./0-0,", "./,0-0", "./0-0,,1-1",
            "./1-1,0-0", "./0-0,0-1", "./0-0,1-0", "./0-0,0-0", "0-0,1-1/0-1,1-0/.", "./0-2", "./2-0", "./00-0",
            "./0-00", "./0 -0", "./0- 0", "./0--0", "./-0-0", "./+0-0", "./0-0-0", "./0", "./-", "./0-", "./-0",
            "./0_0", "./0-x",
            "./.,0-0", "./0-0,.", "none", "./0-\u0660", "./0-\u00b2", "./\uff10-0", "./0\u22120", "./0-0;", "./(0, 0)",
            "./" + "0" * 5000 + "-0", "./0-" + "9" * 5000, "." * 5000,
        ])
        # More calls than doors.
        one = Exchange((1, 2), (2, 1), 2)
        self.assert_bad(lambda text: read_standing(one, text), ["0-0/0-1", "0-1/1-1", "0-0/0-0", "0-0/./."])
        self.assertEqual(read_standing(one, "1-0/1-1"), (((1, 0),), ((1, 1),)))

    def test_rows_of_deeds(self):
        read = lambda text: read_deeds(SQUARE, text)
        self.assertEqual(read("call 0-0;end 0"), [("call", (0, 0)), ("end", 0)])
        self.assert_bad(read, [
            "", ";", "none;", ";none", "None", "none\n", " none", "none;call 0-0", "call 0-0;none", "call 0-0;",
            ";call 0-0", "call 0-0;;end 0", "call 0-0\n", "call  0-0", " call 0-0", "call 0-0 ", "call0-0",
            "call\t0-0", "Call 0-0",
            "call 00-0", "call 0-00", "call 0-2", "call 2-0", "call 0", "call 0,0", "call", "call ", "end", "end ",
            "end 0", "call 0-0;end 1", "call 0-0;end 00", "call 0-0;end -0", "call 0-0;end +0", "call 0-0;end 0;end 0",
            "call 0-0; end 0", "call 0-0 ;end 0", "call 0-0,end 0", "call 0-0;end0", "call 0-0;end 0-0", "call -;end 0",
            "call 0-0;call 0-0;call 0-0", "call 0-0;end \u0660", "call \u0660-0", "call 0-0;end \u00b2", "calls 0-0",
            "call 0-0;end 0.", "call 0-0;end 0x0", "call 0-0;end 200", "call 0-0;end " + "0" * 5000, "call 0-0;ends 0",
            "call 0-0;end " + "9" * 5000, ";" * 300, ";".join(["call 0-0"] * 201), "call 0-0 0-0", "call 0-0;end 0 0",
        ])

    def test_other_values(self):
        for read in (read_exchange, lambda text: read_standing(SQUARE, text), lambda text: read_deeds(SQUARE, text)):
            self.assert_bad(read, odd_values() + [["1|1|1"], ("./.",), {"none": 1}, [".", "."], [("call", (0, 0))], []])


class WritersTest(unittest.TestCase):

    def test_no_standings(self):
        right = ((((0, 0), (1, 1)), ((1, 0), (2, 2)), ((0, 2),)))
        self.assertTrue(is_standing(WIDE, right))
        for value in NO_STANDINGS + odd_items(right) + odd_values():
            if not is_standing(WIDE, value):
                self.assertIs(caught(NoStanding, lambda: standing_text(WIDE, value)).thing, value)

    def test_bad_deeds(self):
        call = ("call", (0, 0))
        for value in odd_values() + [[call, 7], [call] * 3, [call] * 201, (call,), [("end", 0)], [call, ("end", True)]]:
            at = deed_fault(SQUARE, value)
            if at is not None:
                self.assertEqual(caught(BadDeed, lambda: deeds_text(SQUARE, value)).at, at)

    def test_the_arguments_stay_as_they_were(self):
        deeds = some_row(SQUARE, 30)
        same = list(deeds)
        deeds_text(deeds=deeds, exchange=SQUARE)
        self.assertEqual(deeds, same)
        first = read_deeds(text="none", exchange=SQUARE)
        first.append(1)
        self.assertEqual(read_deeds(SQUARE, "none"), [])

    def test_no_text_makes_another_error(self):
        self.assertRaises(BadExchange, lambda: Exchange((5,), (1,), 1))
        self.assertEqual(caught(BadText, lambda: read_exchange(text="5|1|1")).thing, "5|1|1")

    def test_each_function_is_defined_in_the_module(self):
        for name in "exchange_text standing_text deeds_text read_exchange read_standing read_deeds".split():
            self.assertEqual(getattr(texts, name).__module__, "callsthrough.texts")


if __name__ == "__main__":
    unittest.main()
