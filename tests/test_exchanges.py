import itertools
import random
import unittest

from anchoredits.edits import AtOnce, Once
from anchoredits.errors import NoExchange
from anchoredits.exchanges import (
    as_edit, cheapest, cost_of, exchanged, is_exchange, is_prices, orders_of, prices, single, thinned,
)
from anchoredits.programs import Program

from samples import NO_STRINGS, NO_TEXTS, begins_at, raised, words_over

EACH = (0, 1, 2, 5, 100)


def stands_once(text, window):
    return len(begins_at(text, text[window[0]:window[1]])) == 1


def once_windows(text):
    """All windows that stand once, ascending."""
    return [(begin, end) for begin in range(len(text)) for end in range(begin + 1, len(text) + 1)
            if stands_once(text, (begin, end))]


def all_exchanges(one, other, windows=None, kept=0, done=0):
    """All exchanges for one that lead to other; kept and done are the letters of one and other that are done."""
    windows = once_windows(one) if windows is None else windows
    told = [()] if one[kept:] == other[done:] else []
    for begin, end in windows:
        if begin < kept or other[done:done + begin - kept] != one[kept:begin]:
            continue
        first = done + begin - kept
        for last in range(first, len(other) + 1):
            for rest in all_exchanges(one, other, windows, end, last):
                told.append(((begin, end, other[first:last]), *rest))
    return told


def naive_cost(exchange, each):
    return sum(end - begin + len(new) + each for begin, end, new in exchange)


def naive_exchanged(text, exchange):
    for begin, end, new in reversed(exchange):
        text = text[:begin] + new + text[end:]
    return text


def random_text(chance, letters, most):
    return "".join(chance.choice(letters) for _ in range(chance.randint(0, most)))


def random_exchange(chance, text):
    """An exchange for a text, with windows that stand once."""
    parts = []
    end = 0
    for window in once_windows(text):
        if window[0] >= end and chance.random() < 0.25 and len(parts) < 4:
            parts.append((*window, random_text(chance, "abx", 3)))
            end = window[1]
    return tuple(parts)


class ExchangedTest(unittest.TestCase):
    def test_ordinary(self):
        self.assertEqual(exchanged("abcabd", ()), "abcabd")
        self.assertEqual(exchanged("", ()), "")
        self.assertEqual(exchanged("abcabd", ((2, 3, "x"),)), "abxabd")
        self.assertEqual(exchanged(exchange=((0, 6, ""),), text="abcabd"), "")
        # Parts may touch.
        self.assertEqual(exchanged("abcabd", ((1, 3, "x"), (3, 6, ""))), "ax")
        self.assertEqual(exchanged("abcd", ((0, 1, ""), (1, 2, "xy"), (3, 4, "d"))), "xycd")
        self.assertEqual(exchanged("ab", ((0, 1, "b"), (1, 2, "a\n"))), "ba\n")

    def test_windows(self):
        for exchange, index in (
                (((0, 2, "x"),), 0), (((3, 5, "x"),), 0), (((2, 3, ""), (3, 4, "")), 1), (((0, 1, ""), (2, 3, "")), 0),
                (((1, 3, ""), (2, 4, "")), 1), (((4, 6, ""), (2, 3, "")), 1), (((2, 3, ""), (2, 3, "")), 1),
                (((2, 2, "x"),), 0), (((3, 2, "x"),), 0), (((-1, 3, "x"),), 0), (((-1, 6, "x"),), 0), (((2, 7, "x"),), 0), (((6, 7, "x"),), 0),
                (((2, 3, ""), (5, 6, ""), (6, 6, "x")), 2), (((2, 10 ** 59, ""),), 0)):
            self.assertEqual(raised(self, NoExchange, exchanged, "abcabd", exchange).index, index)
            self.assertIs(is_exchange("abcabd", "abcabd", exchange), False)
        self.assertEqual(raised(self, NoExchange, exchanged, "", ((0, 1, "a"),)).index, 0)
        # Places may overlap.
        self.assertEqual(raised(self, NoExchange, exchanged, "aaa", ((0, 2, ""),)).index, 0)

    def test_any_value_as_a_part(self):
        wrong = NO_STRINGS + NO_TEXTS[:3] + [
            "", "abc", (), (0, 1), (0, 1, "x", "y"), [0, 1, "x"], ("0", 1, "x"), (0, "1", "x"), (False, 1, "x"), (0, True, "x"),
            (None, 1, "x"), (0, None, "x"), (0, 1, None), (0, 1, 5), (0, 1, ("x",)), (0, 1, ["x"]), (0, 1, b"x"),
            ((0,), 1, "x"), {0: 1, 1: 2, 2: 3}, ((0, 1, "x"),),
        ]
        wrong += [(0, 1, text) for text in NO_TEXTS]
        for part in wrong:
            self.assertEqual(raised(self, NoExchange, exchanged, "abc", (part,)).index, 0)
            self.assertEqual(raised(self, NoExchange, exchanged, "abc", ((0, 1, "x"), (1, 2, ""), part, part)).index, 2)
            self.assertIs(is_exchange("abc", "abc", (part,)), False)
            self.assertIs(is_exchange("abc", "x", ((0, 1, "x"), (1, 2, ""), part)), False)

    def test_any_value_as_the_exchange(self):
        for value in NO_STRINGS + NO_TEXTS[:3] + ["", "abc", [(0, 1, "x")], {(0, 1, "x"): 1}]:
            if value != ():
                self.assertEqual(raised(self, NoExchange, exchanged, "abc", value).index, 0)
                self.assertIs(is_exchange("abc", "abc", value), False)
        self.assertIs(is_exchange("abc", "abc", ()), True)
        self.assertIs(is_exchange("abc", "abd", ()), False)

    def test_beside_all_exchanges(self):
        for one in words_over("ab", 3) + ["abc", "abca"]:
            for other in words_over("ab", 3):
                for exchange in all_exchanges(one, other):
                    self.assertEqual(exchanged(one, exchange), other)
                    self.assertIs(is_exchange(text=one, other=other, value=exchange), True)
                    self.assertIs(is_exchange(one, other + "a", exchange), False)


class CheapestTest(unittest.TestCase):
    def assert_cheapest(self, one, other, each, least):
        told = cheapest(one, other, each=each)
        self.assertIs(type(told), tuple)
        self.assertTrue(all(type(part) is tuple for part in told))
        self.assertTrue(is_exchange(one, other, told))
        self.assertEqual(cost_of(told, each=each), least)
        paper = prices(one, other, each=each)
        self.assertIs(is_prices(one, other, least, paper, each=each), True)
        for number in (least - 1, least + 1, -1, 10 ** 30):
            self.assertIs(is_prices(one, other, number, paper, each=each), False)

    def test_examples(self):
        self.assertEqual([cost_of(cheapest("abcabd", "abcaxd")), cheapest("aaaa", "aaab"), cheapest("aa", "aa", each=3)],
                         [4, ((0, 4, "aaab"),), ()])

    def test_cost(self):
        self.assertEqual(cost_of(()), 0)
        self.assertEqual(cost_of((), each=100), 0)
        self.assertEqual(cost_of(((0, 2, "abc"), (5, 6, ""))), 6)
        self.assertEqual(cost_of(exchange=((0, 2, "abc"), (5, 6, "")), each=7), 20)
        self.assertRaises(TypeError, cost_of, (), 1)
        self.assertRaises(TypeError, cheapest, "a", "b", 1)
        self.assertRaises(TypeError, prices, "a", "b", 1)
        self.assertRaises(TypeError, is_prices, "a", "b", 1, None, 1)

    def test_beside_all_exchanges(self):
        words = words_over("ab", 4)
        for one in words:
            costs = once_windows(one)
            for other in words[:20]:
                found = all_exchanges(one, other, costs)
                for each in EACH:
                    if one == "" and other != "":
                        self.assertEqual(found, [])
                        self.assertIsNone(cheapest(one, other, each=each))
                        self.assertIsNone(prices(one, other, each=each))
                    else:
                        self.assert_cheapest(one, other, each, min(naive_cost(exchange, each) for exchange in found))

    def test_beside_all_exchanges_of_other_texts(self):
        chance = random.Random(51)
        for _ in range(150):
            letters = chance.choice(["ab", "abc", "abcd"])
            one, other = random_text(chance, letters, 6) or "a", random_text(chance, letters, 6)
            found = all_exchanges(one, other)
            for each in EACH + (chance.randint(0, 100),):
                self.assert_cheapest(one, other, each, min(naive_cost(exchange, each) for exchange in found))

    def test_texts_of_twenty_letters(self):
        chance = random.Random(52)
        for _ in range(30):
            one = "".join(chance.choice("abc") for _ in range(20))
            other = "".join(chance.choice("abc") for _ in range(20))
            for each in (0, 3, 100):
                self.assert_cheapest(one, other, each, cost_of(cheapest(one, other, each=each), each=each))
        self.assertEqual(cheapest("a" * 20, "a" * 20), ())
        self.assertEqual(cheapest("a" * 20, "a" * 19), ((0, 20, "a" * 19),))
        self.assertEqual(cheapest("a" * 20, ""), ((0, 20, ""),))
        # More costly parts make fewer ones.
        one, other = "aXbcdefghijklmnopYqr", "aUbcdefghijklmnopVqr"
        self.assertEqual([len(cheapest(one, other, each=each)) for each in (0, 29, 31, 100)], [2, 2, 1, 1])

    def test_none_only_from_the_empty_text(self):
        for each in EACH:
            self.assertIsNone(cheapest("", "a", each=each))
            self.assertEqual(cheapest("", "", each=each), ())
            self.assertIsNotNone(cheapest("a", "", each=each))


class PricesTest(unittest.TestCase):
    def is_right(self, one, other, number, paper, each):
        """Whether a paper of the right form is right, by the words of promise 52."""
        _, kept, begun = paper
        if kept[0][0] != 0 or kept[len(one)][len(other)] != number:
            return False
        ends = {}
        for begin, end in once_windows(one):
            ends.setdefault(begin, end)
        for i, j in itertools.product(range(len(one) + 1), range(len(other) + 1)):
            if i < len(one) and j < len(other) and one[i] == other[j] and kept[i + 1][j + 1] > kept[i][j]:
                return False
            if i in ends and begun[ends[i]][j] > kept[i][j] + ends[i] - i + each:
                return False
            if i < len(one) and begun[i + 1][j] > begun[i][j] + 1:
                return False
            if j < len(other) and begun[i][j + 1] > begun[i][j] + 1:
                return False
            if kept[i][j] > begun[i][j]:
                return False
        return True

    def test_form_of_what_is_told(self):
        paper = prices("abcabd", "abcaxd", each=2)
        self.assertEqual([type(paper), len(paper), paper[0]], [tuple, 3, "prices"])
        for table in paper[1:]:
            self.assertEqual([type(table), len(table), {type(row) for row in table}, {len(row) for row in table}],
                             [tuple, 7, {tuple}, {7}])
            self.assertEqual({type(price) for row in table for price in row}, {int})
        self.assertTrue(self.is_right("abcabd", "abcaxd", 6, paper, 2))

    def test_one_price_otherwise(self):
        chance = random.Random(53)
        lesser = 0
        for one, other in [("ab", "ba"), ("abc", "b"), ("aab", "aba"), ("a", ""), ("", ""), ("aa", "a"), ("aba", "bb")]:
            for each in (0, 1, 7):
                number = cost_of(cheapest(one, other, each=each), each=each)
                paper = prices(one, other, each=each)
                for which in (1, 2):
                    for i, j in itertools.product(range(len(one) + 1), range(len(other) + 1)):
                        price = paper[which][i][j]
                        for value in (price - 1, price + 1, price - 5, 0, -1, chance.randint(-3, 12), 10 ** 30, -10 ** 30):
                            wrong = self.with_price(paper, which, i, j, value)
                            right = self.is_right(one, other, number, wrong, each)
                            lesser += right and value < price
                            self.assertIs(is_prices(one, other, number, wrong, each=each), right)
                        for value in (None, True, False, "1", (1,), [1]):
                            wrong = self.with_price(paper, which, i, j, value)
                            self.assertIs(is_prices(one, other, number, wrong, each=each), False)
        self.assertGreater(lesser, 10)

    def with_price(self, paper, which, i, j, value):
        tables = [[list(row) for row in table] for table in paper[1:]]
        tables[which - 1][i][j] = value
        return ("prices", *[tuple(tuple(row) for row in table) for table in tables])

    def test_random_papers(self):
        chance = random.Random(54)
        right = 0
        for _ in range(4000):
            tables = [tuple(tuple(chance.randint(-1, 1) for _ in range(2)) for _ in range(3)) for _ in range(2)]
            number, each = chance.randint(-1, 1), chance.randint(0, 1)
            told = self.is_right("ab", "b", number, ("prices", *tables), each)
            right += told
            self.assertIs(is_prices("ab", "b", number, ("prices", *tables), each=each), told)
        self.assertGreater(right, 5)

    def test_lesser_numbers(self):
        none = ((0, 0), (0, 0))
        self.assertIs(is_prices("a", "b", 0, ("prices", none, none)), True)
        self.assertIs(is_prices("a", "b", 1, ("prices", ((0, 0), (0, 1)), ((0, 0), (1, 1)))), True)
        self.assertIs(is_prices("a", "b", 3, ("prices", ((0, 0), (0, 3)), ((0, 0), (1, 3)))), False)
        # What each part costs counts.
        self.assertIs(is_prices("a", "b", 3, ("prices", ((0, 9), (2, 3)), ((9, 9), (2, 3))), each=1), True)
        self.assertIs(is_prices("a", "b", 3, ("prices", ((0, 9), (2, 3)), ((9, 9), (2, 3))), each=0), False)
        self.assertIs(is_prices("a", "b", 3, ("prices", ((0, 9), (2, 3)), ((9, 9), (2, 3)))), False)

    def test_without_an_exchange(self):
        # No step leads from the empty text to another one: so a right paper may have any number.
        self.assertIs(is_prices("", "a", 50, ("prices", ((0, 50),), ((50, 50),))), True)
        self.assertIs(is_prices("", "a", 50, ("prices", ((0, 50),), ((50, 49),))), False)

    def test_other_forms(self):
        one, other = "ab", "cab"
        number = cost_of(cheapest(one, other))
        word, kept, begun = prices(one, other)
        self.assertTrue(is_prices(one=one, other=other, number=number, value=(word, kept, begun)))
        wrong = NO_STRINGS + [
            "", "prices", ("prices",), (word, kept), (word, kept, begun, begun), [word, kept, begun], (kept, begun),
            ("price", kept, begun), (None, kept, begun), (word, list(kept), begun), (word, kept, list(begun)),
            (word, kept, None), (word, None, begun), (word, kept[:-1], begun), (word, kept, begun[:-1]),
            (word, kept + kept[-1:], begun), (word, tuple(map(list, kept)), begun), (word, kept, tuple(map(list, begun))),
            (word, tuple(row[:-1] for row in kept), begun), (word, kept, tuple(row + (9,) for row in begun)),
            (word, kept, begun[:-1] + (None,)), (word, (), ()), (word, ((),), ((),)), (word, begun, kept),
        ]
        for value in wrong:
            self.assertIs(is_prices(one, other, number, value), False)


class SingleTest(unittest.TestCase):
    def test_ordinary(self):
        self.assertEqual(single("abc", "abc"), ())
        self.assertEqual(single("", ""), ())
        self.assertIsNone(single("", "a"))
        self.assertEqual(single("abc", "axc"), ((1, 2, "x"),))
        self.assertEqual(single("aaaa", "aaab"), ((0, 4, "aaab"),))
        self.assertEqual(single(other="", one="abc"), ((0, 3, ""),))
        # Several windows cost the same: the first one.
        self.assertEqual(single("ab", "axb"), ((0, 1, "ax"),))
        self.assertEqual(single("abc", "abxc"), ((1, 2, "bx"),))
        self.assertEqual(single("abcabd", "abcxabd"), ((2, 3, "cx"),))
        self.assertEqual(single("ab", "aab"), ((0, 1, "aa"),))
        self.assertEqual(single("abb", "ab"), ((0, 2, "a"),))
        self.assertEqual(single("aab", "ab"), ((0, 2, "a"),))

    def test_beside_all_exchanges(self):
        chance = random.Random(55)
        cases = [(one, other) for one in words_over("ab", 4) for other in words_over("ab", 4)]
        cases += [(random_text(chance, "abc", 7), random_text(chance, "abc", 7)) for _ in range(300)]
        for _ in range(300):
            text = random_text(chance, "abc", 7)
            cases.append((text, naive_exchanged(text, random_exchange(chance, text)[:1])))
        for one, other in cases:
            found = [((begin, end, other[begin:len(other) - len(one) + end]),) for begin, end in once_windows(one)
                     if begin <= len(other) - len(one) + end
                     and one[:begin] == other[:begin] and one[end:] == other[len(other) - len(one) + end:]]
            if one == other:
                found.append(())
            told = single(one, other)
            self.assertEqual(told, min(found, key=lambda exchange: (naive_cost(exchange, 0), exchange), default=None))


class ThinnedTest(unittest.TestCase):
    def naive(self, text, exchange):
        told = []
        for begin, end, new in exchange:
            if text[begin:end] == new:
                continue
            while new and text[end - 1] == new[-1] and begin < end - 1 and stands_once(text, (begin, end - 1)):
                end, new = end - 1, new[:-1]
            while new and text[begin] == new[0] and begin + 1 < end and stands_once(text, (begin + 1, end)):
                begin, new = begin + 1, new[1:]
            told.append((begin, end, new))
        return tuple(told)

    def test_examples(self):
        self.assertEqual([thinned("abcabd", ((3, 6, "axd"),)), orders_of("abcd", ((0, 1, "b"), (1, 2, "x")))],
                         [((4, 6, "xd"),), [(1, 0)]])

    def test_ordinary(self):
        self.assertEqual(thinned("abc", ()), ())
        self.assertEqual(thinned("abc", ((0, 1, "a"), (2, 3, "c"))), ())
        self.assertEqual(thinned("abc", ((0, 1, "a"), (1, 2, "x"), (2, 3, "c"))), ((1, 2, "x"),))
        # The end first: so the window is its beginning.
        self.assertEqual(thinned(exchange=((0, 3, "abxabc"),), text="abc"), ((0, 1, "abxa"),))
        self.assertEqual(thinned("abc", ((0, 3, "axc"),)), ((1, 2, "x"),))
        self.assertEqual(thinned("abc", ((0, 3, ""),)), ((0, 3, ""),))
        self.assertEqual(thinned("abc", ((0, 3, "abcabc"),)), ((0, 1, "abca"),))
        self.assertEqual(thinned("aab", ((0, 3, "ab"),)), ((0, 2, "a"),))
        # A window of one letter stays.
        self.assertEqual(thinned("abc", ((1, 2, "bb"),)), ((1, 2, "bb"),))

    def test_beside_the_words_of_the_document(self):
        chance = random.Random(56)
        thinner = 0
        for _ in range(600):
            text = random_text(chance, "ab", 7)
            exchange = random_exchange(chance, text)
            told = thinned(text, exchange)
            self.assertEqual(told, self.naive(text, exchange))
            self.assertEqual(exchanged(text, told), exchanged(text, exchange))
            self.assertEqual(thinned(text, told), told)
            self.assertTrue(all(type(part) is tuple for part in told))
            thinner += told != exchange
        self.assertGreater(thinner, 50)


class OrdersOfTest(unittest.TestCase):
    def naive(self, text, exchange):
        told = []
        for order in itertools.permutations(range(len(exchange))):
            result = text
            for index in order:
                begin, end, new = exchange[index]
                if result is not None:
                    found = begins_at(result, text[begin:end])
                    size = end - begin
                    result = None if len(found) != 1 else result[:found[0]] + new + result[found[0] + size:]
            if result == naive_exchanged(text, exchange):
                told.append(order)
        return told

    def test_ordinary(self):
        self.assertEqual(orders_of("abc", ()), [()])
        self.assertEqual(orders_of("abc", ((0, 1, "x"),)), [(0,)])
        self.assertEqual(orders_of(exchange=((0, 1, "x"), (2, 3, "y")), text="abc"), [(0, 1), (1, 0)])
        # The window stands once only behind the other part, or only ahead of it; or neither order will do.
        self.assertEqual(orders_of("abcd", ((0, 1, "b"), (1, 2, "x"))), [(1, 0)])
        self.assertEqual(orders_of("abcd", ((0, 1, "x"), (1, 2, "a"))), [(0, 1)])
        self.assertEqual(orders_of("abcd", ((0, 1, "b"), (1, 2, "a"))), [])
        # Right at its time, but elsewhere.
        self.assertEqual(orders_of("abc", ((0, 1, "c"), (1, 2, ""), (2, 3, "b"))), [(1, 2, 0)])
        self.assertEqual(len(orders_of("abcdefgh", ((0, 1, "w"), (2, 3, "x"), (4, 5, "y"), (6, 7, "z")))), 24)

    def test_windows_of_more_than_forty_letters(self):
        text = "ab" * 30 + "c"
        self.assertEqual(orders_of(text, ((0, 61, "x" * 50),)), [(0,)])
        self.assertIsNone(as_edit(text, ((0, 61, "x"),)))

    def test_beside_the_words_of_the_document(self):
        chance = random.Random(57)
        fewer = 0
        for _ in range(500):
            text = random_text(chance, "abx", 7)
            exchange = random_exchange(chance, text)
            told = orders_of(text, exchange)
            self.assertEqual(told, self.naive(text, exchange))
            self.assertTrue(type(told) is list and all(type(order) is tuple for order in told))
            fewer += 0 < len(told) < len(list(itertools.permutations(exchange)))
        self.assertGreater(fewer, 20)


class AsEditTest(unittest.TestCase):
    def test_ordinary(self):
        self.assertEqual(as_edit("abc", ()), AtOnce())
        self.assertEqual(as_edit("abc", ((0, 1, "x"), (1, 3, ""))), AtOnce(("a", "x"), ("bc", "")))
        self.assertEqual(as_edit(exchange=((1, 2, "x"),), text="abc"), AtOnce(("b", "x")))
        self.assertNotEqual(as_edit("abc", ((1, 2, "x"),)), Once("b", "x"))
        self.assertIsInstance(as_edit("abc", ()), AtOnce)

    def test_what_it_does_not_take(self):
        text = "".join(chr(code) for code in range(40, 90))
        parts = [(index, index + 1, "x") for index in range(0, 8, 2)]
        self.assertEqual(len(as_edit(text, tuple(parts[:3])).parts), 3)
        self.assertIsNone(as_edit(text, tuple(parts)))
        self.assertEqual(as_edit(text, ((0, 40, "x" * 40),)), AtOnce((text[:40], "x" * 40)))
        self.assertIsNone(as_edit(text, ((0, 41, "x"),)))
        self.assertIsNone(as_edit(text, ((0, 40, "x" * 41),)))
        self.assertIsNone(as_edit(text, ((0, 1, ""), (3, 44, ""))))

    def test_does_what_the_exchange_does(self):
        chance = random.Random(58)
        for _ in range(300):
            text = random_text(chance, "abc", 8)
            exchange = random_exchange(chance, text)[:3]
            self.assertEqual(Program(as_edit(text, exchange)).run(text), exchanged(text, exchange))


if __name__ == "__main__":
    unittest.main()
