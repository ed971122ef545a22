"""Points 60 and 61: texts of traffic, conditions and rules, written and read."""

import itertools
import re
import unittest

from batchlimits.errors import InvalidCondition, InvalidRule, InvalidText, InvalidTraffic
from batchlimits.items import is_traffic
from batchlimits.rules import is_condition, is_rule
from batchlimits.texts import (
    format_condition, format_rule, format_traffic, parse_condition, parse_rule, parse_traffic,
)
from tests.test_items import wrong_traffics
from tests.test_rules import shapes, wrong_conditions, wrong_rules
from tests.values import (
    HUGE, long_traffic, odd_values, random_condition, random_rule, random_traffic, source,
)

NESTED = ("any", [("items", 3), ("all", [("weight", 5), ("marks", 1)])])
LIMIT = "items>=3"
PARSERS = (parse_traffic, parse_condition, parse_rule)


def position(parse, text):
    """Return the position that an error names, or "none" if the text is read."""
    try:
        parse(text)
    except InvalidText as error:
        assert list(vars(error)) == ["position"]
        return error.position
    return "none"


def words_slowly(condition):
    """Return the words of a condition as a tuple."""
    word, rest = condition
    if isinstance(rest, int):
        return (f"{word}>={rest}",)
    return (word + "(", *[part for value in rest for part in words_slowly(value)], ")")


def all_texts():
    """Return the words of all conditions of limits that are all the same, with "any" alone."""
    found = [words_slowly(value) for limits in range(1, 7) for value in shapes(limits)]
    return {tuple(word.replace("all(", "any(") for word in words) for words in found}


def beginnings(texts):
    """Return all beginnings of texts, themselves included."""
    return {words[:end] for words in texts for end in range(len(words) + 1)}


def position_slowly(words, texts, begun):
    """Return the number of the first word with which no text begins; "none" for a whole text."""
    for at in range(len(words)):
        if words[:at + 1] not in begun:
            return at
    return "none" if words in texts else len(words)


def is_item_word(word):
    """Return whether a word is that of an item."""
    found = re.fullmatch("(0|[1-9][0-9]*)/(0|[1-9][0-9]*)/[a-z]{1,8}!?", word)
    return found is not None and int(found[1]) <= HUGE and int(found[2]) <= HUGE


def is_limit_word(word):
    """Return whether a word is that of a limit."""
    found = re.fullmatch("(items|weight|age|kinds|marks)>=([1-9][0-9]*)", word)
    return found is not None and int(found[2]) <= (HUGE if found[1] in ("weight", "age") else 40)


def changed_words(word, letters):
    """Return words that differ from a word by one letter more, one less or another one."""
    for at in range(len(word) + 1):
        yield word[:at] + word[at + 1:]
        for letter in letters:
            yield word[:at] + letter + word[at:]
            yield word[:at] + letter + word[at + 1:]


class FormatTest(unittest.TestCase):
    def test_texts(self):
        self.assertEqual(format_condition(NESTED), "any( items>=3 all( weight>=5 marks>=1 ) )")
        self.assertEqual(format_traffic([(0, 5, "a", False), (2, 3, "b", True)]), "0/5/a 2/3/b!")
        self.assertEqual(format_rule((NESTED[1][0], None)), "goal items>=3 cap none")
        self.assertEqual(format_rule((None, None)), "goal none cap none")
        self.assertEqual(format_rule((None, NESTED)), "goal none cap any( items>=3 all( weight>=5 marks>=1 ) )")

    def test_edges(self):
        self.assertEqual(format_traffic([]), "")
        self.assertEqual(format_traffic([(HUGE, HUGE, "abcdefgh", True)]), f"{HUGE}/{HUGE}/abcdefgh!")
        self.assertEqual(len(format_traffic([(HUGE, HUGE, "abcdefgh", True)] * 40).split(" ")), 40)
        self.assertEqual(format_condition(("age", HUGE)), f"age>={HUGE}")
        self.assertEqual(format_condition(("all", [("items", 40)] * 6)), "all( " + "items>=40 " * 6 + ")")

    def test_wrong_values(self):
        for function, wrong, error in [
            (format_traffic, wrong_traffics(), InvalidTraffic), (format_condition, wrong_conditions(), InvalidCondition),
            (format_rule, wrong_rules(), InvalidRule),
        ]:
            for at, value in enumerate(wrong):
                with self.subTest(function=function.__name__, at=at), self.assertRaises(error):
                    function(value)


class ReadBackTest(unittest.TestCase):
    def test_traffic(self):
        numbers = source(131)
        for _ in range(100):
            for traffic in (random_traffic(numbers), long_traffic(numbers)):
                self.assertEqual(parse_traffic(format_traffic(traffic)), traffic)
        self.assertEqual(parse_traffic(""), [])
        self.assertEqual(parse_traffic(f"0/{HUGE}/abcdefgh! {HUGE}/0/z"), [
            (0, HUGE, "abcdefgh", True), (HUGE, 0, "z", False),
        ])

    def test_conditions_and_rules(self):
        numbers = source(132)
        for _ in range(300):
            condition, rule = random_condition(numbers), random_rule(numbers, 6)
            self.assertEqual(parse_condition(format_condition(condition)), condition)
            self.assertEqual(parse_rule(format_rule(rule)), rule)
            self.assertTrue(is_condition(parse_condition(format_condition(condition))))
            self.assertTrue(is_rule(parse_rule(format_rule(rule))))

    def test_conditions_of_all_shapes(self):
        for limits in range(1, 7):
            for condition in shapes(limits):
                text = " ".join(words_slowly(condition))
                self.assertEqual(format_condition(condition), text)
                self.assertEqual(parse_condition(text), condition)
                self.assertEqual(parse_rule(f"goal {text} cap {text}"), (condition, condition))

    def test_texts_are_written_as_they_were_read(self):
        for text in ["goal none cap all( weight>=5 age>=9 )", "goal kinds>=40 cap none"]:
            self.assertEqual(format_rule(parse_rule(text)), text)
        self.assertEqual(parse_rule("goal none cap all( weight>=5 age>=9 )"), (None, ("all", [("weight", 5), ("age", 9)])))

    def test_read_values_are_new_ones(self):
        text = format_condition(NESTED)
        parse_condition(text)[1].clear()
        parse_rule(f"goal {text} cap none")[0][1].clear()
        parse_traffic("0/5/a").clear()
        self.assertEqual(parse_condition(text), NESTED)
        self.assertEqual(parse_rule(f"goal {text} cap none"), (NESTED, None))
        self.assertEqual(parse_traffic("0/5/a"), [(0, 5, "a", False)])


class WordsTest(unittest.TestCase):
    def test_words_of_items(self):
        words = ["0/5/a", "12/30/abcdefgh!", f"{HUGE}/{HUGE}/z", f"0/{HUGE}/b!", "10/0/kind"]
        for word in words:
            for other in [word, *changed_words(word, "0/!aZ-+ .\n_19")]:
                many = other.count(" ")
                if many == 0 and other:
                    expected = "none" if is_item_word(other) else 0
                    self.assertEqual(position(parse_traffic, other), expected, other)
                    self.assertEqual(position(parse_traffic, f"0/0/a {other}"), 1 if expected == 0 else "none", other)

    def test_words_of_limits(self):
        for word in ["items>=3", "kinds>=40", "marks>=1", f"weight>={HUGE}", f"age>={HUGE}", "weight>=41", "age>=7"]:
            for other in [word, *changed_words(word, "0>=aZ-+.\n_19(")]:
                expected = "none" if is_limit_word(other) else 0
                self.assertEqual(position(parse_condition, other), expected, other)
                inner = 2 if expected == 0 else "none"
                self.assertEqual(position(parse_condition, f"any( items>=3 {other} )"), inner, other)

    def test_numbers(self):
        for number in [
            "00", "01", "007", "+1", "-1", "-0", "1.0", "1e3", "0x1", "1_0", "", " 1", "one", str(HUGE + 1), "9" * 31,
            "1" + "0" * 31, "0" * 31, "0" + str(HUGE), "1" * 1000, "\u0661", "\u00b2", "\uff11",
        ]:
            for text in (f"{number}/0/a", f"0/{number}/a", f"{number}/{number}/a!"):
                self.assertEqual(position(parse_traffic, text), 0, text)
            for measure in ("items", "weight", "age"):
                self.assertEqual(position(parse_condition, f"{measure}>={number}"), 0)
        self.assertEqual(position(parse_condition, "weight>=0"), 0)
        self.assertEqual(parse_condition(f"weight>={HUGE}"), ("weight", HUGE))
        self.assertEqual(parse_traffic("0/0/a"), [(0, 0, "a", False)])

    def test_wrong_words_of_items(self):
        for word in [
            "a", "0/0", "0/0/", "0/0/!", "0/0/a/", "/0/0/a", "0/0/a/b", "0//a", "//a", "//", "0/0/a!!", "!0/0/a",
            "0/0!/a", "0/0/abcdefghi", "0/0/A", "0/0/a1", "0/0/\u00e9", "none", "goal", "items>=3", "0/0/a,", ",",
        ]:
            self.assertEqual(position(parse_traffic, word), 0, word)
            self.assertEqual(position(parse_traffic, f"0/0/a 0/0/b {word} 0/0/c"), 2, word)

    def test_wrong_words_of_conditions(self):
        for word in [
            "items", "items>", "items>=", ">=3", "items>3", "items=3", "items=>3", "items>=3>=4", "items>=41", "kinds>=41",
            "marks>=0", "Items>=3", "item>=3", "any", "any(items>=3", "(", ")", "any()", "ALL(", "none", "cap", "goal",
            "weight>=5)", "or(", "0/0/a", f"age>={HUGE + 1}",
        ]:
            self.assertEqual(position(parse_condition, word), 0, word)
            self.assertEqual(position(parse_condition, f"all( {LIMIT} {word} {LIMIT} )"), 2, word)
            if word != "none":
                self.assertEqual(position(parse_rule, f"goal {word} cap none"), 1, word)
                self.assertEqual(position(parse_rule, f"goal none cap {word}"), 3, word)


class SpacesTest(unittest.TestCase):
    def test_the_empty_string(self):
        self.assertEqual(parse_traffic(""), [])
        self.assertEqual(position(parse_condition, ""), 0)
        self.assertEqual(position(parse_rule, ""), 0)

    def test_spaces_alone(self):
        for text in (" ", "  ", "   "):
            self.assertEqual([position(parse, text) for parse in PARSERS], [0, 0, 0])

    def test_a_space_at_either_end(self):
        for parse, text in [
            (parse_traffic, "0/5/a 2/3/b!"), (parse_condition, f"any( {LIMIT} {LIMIT} )"), (parse_condition, LIMIT),
            (parse_rule, "goal none cap none"), (parse_rule, f"goal {LIMIT} cap {LIMIT}"),
        ]:
            self.assertEqual(position(parse, text), "none")
            self.assertEqual(position(parse, text + " "), len(text.split(" ")))
            self.assertEqual(position(parse, " " + text), 0)

    def test_double_spaces_at_each_place(self):
        for parse, text in [
            (parse_traffic, "0/5/a 2/3/b! 0/0/c"), (parse_condition, f"any( {LIMIT} all( {LIMIT} {LIMIT} ) )"),
            (parse_rule, f"goal any( {LIMIT} {LIMIT} ) cap none"),
        ]:
            words = text.split(" ")
            for at in range(1, len(words)):
                double = " ".join(words[:at] + [""] + words[at:])
                self.assertEqual(position(parse, double), at, double)

    def test_other_white_space_separates_nothing(self):
        for white in ("\n", "\t", "\r", "\u00a0"):
            self.assertEqual(position(parse_traffic, f"0/0/a{white}0/0/b"), 0)
            self.assertEqual(position(parse_traffic, f"0/0/a 0/0/b{white}"), 1)
            self.assertEqual(position(parse_condition, f"any({white}{LIMIT} {LIMIT} )"), 0)
            self.assertEqual(position(parse_rule, f"goal none cap none{white}"), 3)


class PositionTest(unittest.TestCase):
    def test_values_that_are_no_strings(self):
        for parse in PARSERS:
            for at, value in enumerate(value for value in odd_values() if not isinstance(value, str)):
                with self.subTest(parse=parse.__name__, at=at):
                    self.assertIsNone(position(parse, value))

    def test_strings_that_are_no_texts(self):
        for value in odd_values():
            if isinstance(value, str):
                expected = ["none" if value == "" else 0, 0, 0]
                self.assertEqual([position(parse, value) for parse in PARSERS], expected)

    def test_examples(self):
        self.assertEqual(position(parse_condition, "any( items>=3 )"), 2)
        self.assertEqual(position(parse_condition, "any( items>=3 weight>=1"), 3)

    def test_forty_items_and_more(self):
        words = ["0/5/a"] * 40
        self.assertEqual(len(parse_traffic(" ".join(words))), 40)
        self.assertTrue(is_traffic(parse_traffic(" ".join(words))))
        for more in (["0/5/a"], ["0/5/a"] * 9, ["wrong"], [""], ["0/5/a", "wrong"]):
            self.assertEqual(position(parse_traffic, " ".join(words + more)), 40)
        words[7] = "wrong"
        self.assertEqual(position(parse_traffic, " ".join(words + ["0/5/a"])), 7)

    def test_one_to_seven_parts(self):
        for many in range(8):
            text = " ".join(["any(", *[LIMIT] * many, ")"])
            expected = "none" if 2 <= many <= 6 else many + 1 if many < 2 else 7
            self.assertEqual(position(parse_condition, text), expected, text)

    def test_six_and_seven_limits(self):
        six = f"any( {LIMIT} {LIMIT} all( {LIMIT} {LIMIT} ) any( {LIMIT} {LIMIT} ) )"
        self.assertEqual(position(parse_condition, six), "none")
        for text, expected in [
            # The second "any(" would need a sixth and a seventh limit.
            (f"any( {LIMIT} {LIMIT} {LIMIT} {LIMIT} {LIMIT} any( {LIMIT} {LIMIT} ) )", 6),
            (f"any( {LIMIT} {LIMIT} {LIMIT} {LIMIT} all( {LIMIT} {LIMIT} {LIMIT} ) )", 8),
            (f"all( any( {LIMIT} {LIMIT} {LIMIT} {LIMIT} {LIMIT} {LIMIT} ) {LIMIT} )", 7),
            ("any( " * 6, 5), ("any( " * 5 + f"{LIMIT} {LIMIT} {LIMIT}", 7),
            ("any( " * 5 + f"{LIMIT} {LIMIT} ) {LIMIT} {LIMIT}", 9),
        ]:
            self.assertEqual(position(parse_condition, text.rstrip(" ")), expected, text)
            self.assertEqual(position(parse_rule, "goal none cap " + text.rstrip(" ")), expected + 3, text)
        self.assertEqual(position(parse_rule, f"goal {six} cap {six}"), "none")

    def test_texts_that_end_too_early_at_every_place(self):
        for parse, text in [
            (parse_condition, f"any( {LIMIT} all( {LIMIT} {LIMIT} ) any( {LIMIT} {LIMIT} ) )"),
            (parse_rule, f"goal any( {LIMIT} all( {LIMIT} {LIMIT} ) ) cap all( {LIMIT} {LIMIT} )"),
            (parse_rule, "goal none cap none"),
        ]:
            words = text.split(" ")
            for end in range(len(words)):
                self.assertEqual(position(parse, " ".join(words[:end])), end)
            self.assertEqual(position(parse, text), "none")
            self.assertEqual(position(parse, text + " none"), len(words))

    def test_conditions_against_all_texts(self):
        texts = all_texts()
        begun = beginnings(texts)
        vocabulary = ("items>=3", "any(", ")")
        numbers = source(133)
        tried = [words for many in range(9) for words in itertools.product(vocabulary, repeat=many)]
        tried += [tuple(numbers.choices(vocabulary, (5, 3, 3), k=numbers.randrange(9, 20))) for _ in range(5000)]
        for words in list(texts):
            at = numbers.randrange(len(words))
            tried += [words, words[:at] + words[at + 1:], words[:at] + (numbers.choice(vocabulary),) + words[at:]]
            tried += [words + (")",), words[:at] + ("wrong",) + words[at:]]
        for words in tried:
            expected = position_slowly(words, texts, begun)
            self.assertEqual(position(parse_condition, " ".join(words)), expected, words)

    def test_rules_against_all_texts(self):
        sides = [("none",)] + sorted(words for words in all_texts() if len(words) <= 6)
        texts = {("goal", *goal, "cap", *cap) for goal in sides for cap in sides}
        begun = beginnings(texts)
        # The beginnings of longer conditions, as far as they are tried here.
        longer = {words for words in beginnings(all_texts()) if len(words) <= 6}
        begun |= {("goal", *words) for words in longer}
        begun |= {("goal", *goal, "cap", *words) for goal in sides for words in longer}
        vocabulary = ("goal", "cap", "none", "items>=3", "any(", ")")
        tried = [words for many in range(6) for words in itertools.product(vocabulary, repeat=many)]
        tried += [("goal", *words) for words in itertools.product(vocabulary, repeat=5)]
        tried += [("goal", "none", "cap", *words) for words in itertools.product(vocabulary, repeat=4)]
        for words in tried:
            expected = position_slowly(words, texts, begun)
            self.assertEqual(position(parse_rule, " ".join(words)), expected, words)
