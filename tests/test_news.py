"""[3.1], [3.2]: news; [0.2] as far as it speaks of them."""

import copy
import itertools
import unittest

from cases import Case
from heldhints.errors import NoHouse, NoNews
from heldhints.news import News, look_at_news
from odd import Sour, no_wholes, no_words, odd_things

GREATEST = 10 ** 12
FRESH = (0, False)

NO_ENTRIES = [
    (), (0,), (0, False, False), [0, False], (-1, False), (GREATEST + 1, False), (GREATEST + 1, True), (True, False),
    (False, False), (0, 0), (0, 1), (0, None), (0, "False"), (False, 0), ("0", False), (None, True), "0F", 0, None,
]


class Looked(Case):
    def test_news(self):
        for thing in ({}, {"a": FRESH}, {"a": (GREATEST, True), "abcdef": (0, True)}, {"b": FRESH, "a": (5, False)}):
            self.assertIs(look_at_news(thing), None)

    def test_no_dict(self):
        for thing in odd_things() + [[("a", FRESH)], (("a", FRESH),), "a", 0, News("a", [])]:
            if not isinstance(thing, dict):
                self.refuses(NoNews, look_at_news, thing, house=None)

    def test_keys_that_are_no_words(self):
        for key in (None, True, 0, -1, "", "A", "abcdefg", "a1", (), ("a",), (0, "a", 1), b"a", frozenset(), ..., len):
            self.refuses(NoNews, look_at_news, {key: FRESH}, house=key)
            self.refuses(NoNews, look_at_news, {"a": FRESH, key: FRESH, "b": FRESH}, house=key)

    def test_the_least_of_them_by_repr(self):
        # By repr: quotes, brackets, -, figures, great letters, small ones; so 10 is ahead of 9.
        rising = ["A", "a1", (), (1,), -5, 10, 9, None, True, b"a"]
        self.assertEqual([repr(key) for key in rising], sorted([repr(key) for key in rising]))
        for start in range(len(rising)):
            for order in (rising[start:], rising[:start - 1:-1] if start else rising[::-1]):
                self.refuses(NoNews, look_at_news, {key: FRESH for key in order}, house=rising[start])

    def test_entries_that_are_none(self):
        for entry in NO_ENTRIES:
            self.refuses(NoNews, look_at_news, {"a": entry}, house="a")
            self.refuses(NoNews, look_at_news, {"a": FRESH, "b": entry}, house="b")

    def test_entries_of_anything(self):
        for thing in odd_things():
            self.refuses(NoNews, look_at_news, {"a": thing}, house="a")
            if not isinstance(thing, bool):
                self.refuses(NoNews, look_at_news, {"a": (0, thing)}, house="a")
        for thing in no_wholes():
            self.refuses(NoNews, look_at_news, {"a": (thing, False)}, house="a")

    def test_the_least_house_of_them(self):
        for order in itertools.permutations(["ab", "b", "c"]):
            news = {house: None for house in order}
            news["a"] = FRESH
            self.refuses(NoNews, look_at_news, news, house="ab")

    def test_both_at_once(self):
        self.refuses(NoNews, look_at_news, {"a": None, "b": FRESH, 7: FRESH}, house=7)
        self.refuses(NoNews, look_at_news, {7: None, "a": None}, house=7)
        self.refuses(NoNews, look_at_news, {"a": Sour(), 7: Sour()}, house=7)

    def test_entries_at_the_edges(self):
        for number in (0, 1, GREATEST):
            for away in (True, False):
                self.assertIs(look_at_news({"a": (number, away)}), None)
        for number in (-1, GREATEST + 1):
            for away in (True, False):
                self.refuses(NoNews, look_at_news, {"a": (number, away)}, house="a")


class Made(Case):
    def test_at_first(self):
        news = News("b", ["c", "a"])
        self.assertEqual(news.called(), "b")
        self.assertEqual(news.entries(), {"a": FRESH, "b": FRESH, "c": FRESH})
        for name in ("a", "b", "c"):
            self.assertEqual(news.entry(name), FRESH)
            self.assertIs(news.here(name), True)

    def test_of_itself_alone_and_among_the_others(self):
        self.assertEqual(News("b", []).entries(), {"b": FRESH})
        self.assertEqual(News("b", ()).entries(), {"b": FRESH})
        self.are_alike(News("b", ["a", "b"]), News("b", ("a",)))

    def test_its_name_is_a_word(self):
        for thing in no_words():
            self.refuses(NoHouse, News, thing, ["a"], house=thing)

    def test_unknown_ones(self):
        news = News("a", ["b"])
        for thing in no_words() + ["c", "ab"]:
            for ask in (news.here, news.entry, news.doubt, news.leave):
                self.refuses(NoHouse, ask, thing, house=thing)
        self.are_alike(news, News("a", ["b"]))


class Doubted(Case):
    def test_once_and_twice(self):
        news = News("a", ["b", "c"])
        self.assertIs(news.doubt("b"), True)
        self.assertIs(news.here("b"), False)
        self.assertEqual(news.entry("b"), (0, True))
        self.assertIs(news.doubt("b"), False)
        self.assertEqual(news.entries(), {"a": FRESH, "b": (0, True), "c": FRESH})

    def test_keeps_the_number(self):
        news = News("a", ["b"])
        news.take({"b": (7, False)})
        self.assertIs(news.doubt("b"), True)
        self.assertEqual(news.entry("b"), (7, True))

    def test_itself(self):
        news = News("a", ["b"])
        self.refuses(NoHouse, news.doubt, "a", house="a")
        self.are_alike(news, News("a", ["b"]))

    def test_rises(self):
        news = News("a", ["b"])
        self.assertEqual(news.rise(), 1)
        self.assertEqual(news.entry("a"), (1, False))
        self.assertEqual(news.rise(), 2)
        self.assertEqual(news.entries(), {"a": (2, False), "b": FRESH})


class Taken(Case):
    def test_greater_like_and_lesser_entries(self):
        entries = [(0, False), (0, True), (3, False), (3, True), (4, False), (GREATEST, True)]
        for elder, newer in itertools.product(entries, entries):
            news = News("a", ["b"])
            news.take({"b": elder})
            self.assertEqual(news.entry("b"), elder)
            self.assertIs(news.take({"b": newer}), newer > elder)
            self.assertEqual(news.entry("b"), max(elder, newer))
            self.assertEqual(news.entry("a"), FRESH)

    def test_tells_whether_some_entry_is_otherwise(self):
        news = News("a", ["b", "c"])
        self.assertIs(news.take({}), False)
        self.assertIs(news.take({"a": FRESH, "b": FRESH, "c": FRESH}), False)
        self.assertIs(news.take({"b": FRESH, "c": (0, True)}), True)
        self.assertIs(news.take({"b": FRESH, "c": (0, True)}), False)
        self.assertIs(news.take({"b": (1, False), "c": FRESH}), True)
        self.assertEqual(news.entries(), {"a": FRESH, "b": (1, False), "c": (0, True)})

    def test_unknown_houses(self):
        news = News("a", ["b"])
        self.assertIs(news.take({"c": (5, True), "ab": (1, False)}), False)
        self.assertEqual(news.entries(), {"a": FRESH, "b": FRESH})

    def test_itself_away(self):
        for number in (0, 1, 9):
            news = News("a", ["b"])
            self.assertIs(news.take({"a": (number, True)}), True)
            self.assertEqual(news.entry("a"), (number + 1, False))
            self.assertIs(news.here("a"), True)
            self.assertIs(news.take({"a": (number, True)}), False)
            self.assertEqual(news.entry("a"), (number + 1, False))

    def test_itself_away_by_an_elder_number(self):
        news = News("a", ["b"])
        for turn in range(3):
            news.rise()
        self.assertIs(news.take({"a": (2, True)}), False)
        self.assertEqual(news.entry("a"), (3, False))
        self.assertIs(news.take({"a": (3, True)}), True)
        self.assertEqual(news.entry("a"), (4, False))

    def test_itself_here_by_a_greater_number(self):
        news = News("a", ["b"])
        self.assertIs(news.take({"a": (6, False)}), True)
        self.assertEqual(news.entry("a"), (6, False))
        self.assertEqual(news.rise(), 7)

    def test_what_is_no_news(self):
        news = News("a", ["b"])
        for thing in odd_things():
            if not isinstance(thing, dict):
                self.refuses(NoNews, news.take, thing, house=None)
            self.refuses(NoNews, news.take, {"b": (9, True), "c": thing}, house="c")
        self.refuses(NoNews, news.take, {"b": (9, True), 3: FRESH}, house=3)
        self.refuses(NoNews, news.take, {"a": (9, True), "b": (9, True), "zz": (True, True)}, house="zz")
        self.are_alike(news, News("a", ["b"]))

    def test_in_whatever_order_and_however_often(self):
        some = [
            {"b": (3, True), "c": (1, False), "zz": (5, True)}, {"b": (3, False), "c": (2, False)},
            {"b": (4, False)}, {"c": (1, True), "d": (0, True)}, {"a": (2, True)}, {"a": (1, True), "d": FRESH},
        ]
        wanted = {"a": (3, False), "b": (4, False), "c": (2, False), "d": (0, True)}
        for order in itertools.permutations(some):
            news = News("a", ["b", "c", "d"])
            for one in order + order[::2]:
                news.take(one)
            self.assertEqual(news.entries(), wanted)


class ComeAndLeft(Case):
    def test_comes(self):
        news = News("b", ["c"])
        self.assertIs(news.come("a"), None)
        self.assertEqual(news.entries(), {"a": FRESH, "b": FRESH, "c": FRESH})

    def test_comes_twice(self):
        news = News("b", ["c"])
        news.doubt("c")
        news.rise()
        before = news.entries()
        for name in ("c", "b", "c"):
            self.assertIs(news.come(name), None)
        self.assertEqual(news.entries(), before)

    def test_what_is_no_word_comes_not(self):
        news = News("b", ["c"])
        for thing in no_words():
            self.refuses(NoHouse, news.come, thing, house=thing)
        self.are_alike(news, News("b", ["c"]))

    def test_leaves(self):
        news = News("b", ["a", "c"])
        self.assertIs(news.leave("c"), None)
        self.assertEqual(news.entries(), {"a": FRESH, "b": FRESH})
        self.refuses(NoHouse, news.leave, "c", house="c")
        self.refuses(NoHouse, news.here, "c", house="c")

    def test_comes_anew(self):
        news = News("b", ["c"])
        news.take({"c": (5, True)})
        news.leave("c")
        news.come("c")
        self.assertEqual(news.entry("c"), FRESH)

    def test_the_house_itself_leaves_not(self):
        news = News("b", ["c"])
        self.refuses(NoHouse, news.leave, "b", house="b")
        self.are_alike(news, News("b", ["c"]))


class Told(Case):
    def test_entries_by_sorted_houses(self):
        news = News("m", ["z", "a"])
        news.come("k")
        news.take({"z": (4, True)})
        self.assertEqual(list(news.entries()), ["a", "k", "m", "z"])
        self.assertEqual(list(news.twin().entries()), ["a", "k", "m", "z"])

    def test_a_new_dict_each_time(self):
        news = News("a", ["b"])
        told = news.entries()
        told["b"] = (9, True)
        told["c"] = FRESH
        del told["a"]
        self.assertEqual(news.entries(), {"a": FRESH, "b": FRESH})
        self.assertIs(type(news.entry("a")), tuple)

    def test_twins_go_on_by_themselves(self):
        news = News("a", ["b", "c"])
        news.doubt("b")
        twin = news.twin()
        self.are_alike(news, twin)
        self.assertEqual(twin.called(), "a")
        twin.rise()
        twin.come("d")
        self.assertEqual(news.entries(), {"a": FRESH, "b": (0, True), "c": FRESH})
        news.leave("c")
        news.take({"b": (3, False)})
        self.assertEqual(twin.entries(), {"a": (1, False), "b": (0, True), "c": FRESH, "d": FRESH})

    def test_alike_and_unlike(self):
        self.are_alike(News("a", ["b", "c"]), News("a", ("c", "b")))
        self.are_unlike(News("a", ["b"]), News("b", ["a"]))
        self.are_unlike(News("a", ["b"]), News("a", []))
        doubting = News("a", ["b"])
        doubting.doubt("b")
        self.are_unlike(doubting, News("a", ["b"]))
        risen = News("a", ["b"])
        risen.rise()
        self.are_unlike(risen, News("a", ["b"]))
        self.is_like_nothing_else(News("a", ["b"]))
        self.are_unlike(News("a", []), {"a": FRESH})


class Arguments(Case):
    def test_by_names(self):
        self.assertIs(look_at_news(thing={}), None)
        news = News(houses=["b"], own="a")
        self.assertIs(news.come(name="c"), None)
        self.assertIs(news.doubt(name="b"), True)
        self.assertIs(news.here(name="b"), False)
        self.assertEqual(news.entry(name="b"), (0, True))
        self.assertIs(news.take(news={"b": (1, False)}), True)
        self.assertIs(news.leave(name="c"), None)

    def test_none_may_be_left_out(self):
        news = News("a", ["b"])
        for call in (look_at_news, News, news.come, news.doubt, news.here, news.entry, news.take, news.leave):
            self.assertRaises(TypeError, call)
        self.assertRaises(TypeError, News, "a")

    def test_what_is_handed_in_is_neither_changed_nor_kept(self):
        houses = ["c", "b"]
        taken = {"c": (3, True), "a": (1, True), "zz": FRESH}
        before = copy.deepcopy(taken)
        news = News("a", houses)
        news.take(taken)
        self.assertEqual((houses, taken, list(taken)), (["c", "b"], before, list(before)))
        houses.append("d")
        taken["b"] = (9, True)
        self.assertEqual(news.entries(), {"a": (2, False), "b": FRESH, "c": (3, True)})

    def test_what_is_refused_stays_as_it_was(self):
        taken = {"b": None, "a": FRESH}
        self.refuses(NoNews, News("a", ["b"]).take, taken, house="b")
        self.assertEqual(list(taken.items()), [("b", None), ("a", FRESH)])


if __name__ == "__main__":
    unittest.main()
