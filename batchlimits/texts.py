"""Traffic, conditions and rules as texts, and back.

A text is read word by word. A place behind the last word is read as an empty word, which is a word of no text, too:
so a text that ends too early is wrong at the place where its next word would stand.
"""

from batchlimits.errors import InvalidText
from batchlimits.items import MOST_ITEMS, check_traffic, is_item
from batchlimits.rules import MEASURES, MOST_LIMITS, check_condition, check_rule, is_limit, listed_limits

# The number of digits of the greatest number, 10 ** 30.
MOST_DIGITS = 31
COMPOUNDS = {"any(": "any", "all(": "all"}
CLOSE = ")"
NOTHING = "none"


def item_word(item):
    """Return the word of an item."""
    pause, weight, kind, marked = item
    mark = "!" if marked else ""
    return f"{pause}/{weight}/{kind}{mark}"


def format_traffic(traffic):
    """Return the text of a traffic."""
    check_traffic(traffic)
    return " ".join([item_word(item) for item in traffic])


def condition_words(condition):
    """Return the list of the words of what is known to be a condition."""
    word, rest = condition
    if word in MEASURES:
        return [f"{word}>={rest}"]
    words = [f"{word}("]
    for part in rest:
        words.extend(condition_words(part))
    words.append(CLOSE)
    return words


def side_words(condition):
    """Return the list of the words of the goal or the cap of what is known to be a rule."""
    return [NOTHING] if condition is None else condition_words(condition)


def format_condition(condition):
    """Return the text of a condition."""
    check_condition(condition)
    return " ".join(condition_words(condition))


def format_rule(rule):
    """Return the text of a rule."""
    check_rule(rule)
    goal, cap = rule
    return " ".join(["goal", *side_words(goal), "cap", *side_words(cap)])


def words_of(text):
    """Return the list of the words of a text; raise InvalidText if a value is not a string."""
    if not isinstance(text, str):
        raise InvalidText(None)
    return text.split(" ") if text else []


def word_at(words, at):
    """Return the word with a number, an empty one behind the last word."""
    return words[at] if at < len(words) else ""


def read_number(word):
    """Return the number that a word is: decimal, without leading zeros, at most 31 digits; otherwise None."""
    if len(word) > MOST_DIGITS or not word.isascii() or not word.isdigit():
        return None
    if word.startswith("0") and word != "0":
        return None
    return int(word)


def read_item(word):
    """Return the item that a word is, or None."""
    parts = word.removesuffix("!").split("/")
    if len(parts) != 3:
        return None
    pause, weight, kind = parts
    item = (read_number(pause), read_number(weight), kind, word.endswith("!"))
    return item if is_item(item) else None


def read_limit(word):
    """Return the limit that a word is, or None."""
    measure, sign, bound = word.partition(">=")
    limit = (measure, read_number(bound))
    return limit if is_limit(limit) else None


def compound_at(words, at, room):
    """Return the "any" or "all" of at most so many limits whose words begin at a place, and the place behind it."""
    # Two parts are needed, and each of them needs a limit.
    if room < 2:
        raise InvalidText(at)
    parts = []
    place = at + 1
    while len(parts) < 2 or word_at(words, place) != CLOSE:
        # The first part leaves room for a second one.
        part, place = condition_at(words, place, room if parts else room - 1)
        parts.append(part)
        room -= len(listed_limits(part))
    return ((COMPOUNDS[words[at]], parts), place + 1)


def condition_at(words, at, room):
    """Return the condition of at most so many limits whose words begin at a place, and the place behind it."""
    word = word_at(words, at)
    if word in COMPOUNDS:
        return compound_at(words, at, room)
    limit = read_limit(word)
    if limit is None or room < 1:
        raise InvalidText(at)
    return (limit, at + 1)


def side_at(words, at):
    """Return the goal or the cap of a rule whose words begin at a place, and the place behind it."""
    if word_at(words, at) == NOTHING:
        return (None, at + 1)
    return condition_at(words, at, MOST_LIMITS)


def check_word(words, at, expected):
    """Raise InvalidText unless this word stands at a place."""
    if word_at(words, at) != expected:
        raise InvalidText(at)


def check_end(words, at):
    """Raise InvalidText if there is a word at a place behind the whole text."""
    if at < len(words):
        raise InvalidText(at)


def parse_traffic(text):
    """Return the traffic with this text."""
    traffic = []
    for at, word in enumerate(words_of(text)):
        item = read_item(word)
        if item is None or at == MOST_ITEMS:
            raise InvalidText(at)
        traffic.append(item)
    return traffic


def parse_condition(text):
    """Return the condition with this text."""
    words = words_of(text)
    condition, place = condition_at(words, 0, MOST_LIMITS)
    check_end(words, place)
    return condition


def parse_rule(text):
    """Return the rule with this text."""
    words = words_of(text)
    check_word(words, 0, "goal")
    goal, place = side_at(words, 1)
    check_word(words, place, "cap")
    cap, place = side_at(words, place + 1)
    check_end(words, place)
    return (goal, cap)
