"""Numbers, fractions, items and tracks shown as texts, and read from them."""

from reelcut.clips import NOUGHT, is_name
from reelcut.errors import NoText
from reelcut.fractions import is_before, is_fraction
from reelcut.tracks import is_in_one_form

FIGURES = "0123456789"
MOST_FIGURES = 60
# By the first word of an item the kinds of its other words.
ITEMS = {
    "clip": ("name", "fraction", "fraction", "length"),
    "nest": ("name", "count", "length"),
    "gap": ("length",),
    "mix": ("length",),
}


def show_number(number):
    return str(number)


def show_fraction(one):
    if one[1] == 1:
        return show_number(one[0])
    return show_number(one[0]) + "/" + show_number(one[1])


def show_word(part):
    if isinstance(part, tuple):
        return show_fraction(part)
    # A name is shown as it stands, a number by its figures.
    return str(part)


def show_words(parts):
    return " ".join([show_word(part) for part in parts])


def show_item(item):
    return show_words(item)


def show_track(track):
    return "; ".join([show_item(item) for item in track])


def check_text(thing):
    if not isinstance(thing, str):
        raise NoText("this is no text")


def are_figures(signs):
    if len(signs) < 1 or len(signs) > MOST_FIGURES:
        return False
    return all([sign in FIGURES for sign in signs])


def read_number(text):
    check_text(text)
    signs = text[1:] if text.startswith("-") else text
    # A number has one form: a 0 ahead, or -0, would be shown otherwise.
    if not are_figures(signs) or show_number(int(text)) != text:
        raise NoText("this shows no number")
    return int(text)


def read_fraction(text):
    check_text(text)
    parts = text.partition("/")
    one = (read_number(parts[0]), read_number(parts[2]) if parts[1] == "/" else 1)
    if not is_fraction(one) or show_fraction(one) != text:
        raise NoText("this shows no fraction")
    return one


def read_name(word):
    if not is_name(word):
        raise NoText("this is no name")
    return word


def read_from(word, least):
    number = read_number(word)
    if number < least:
        raise NoText("this number is too small")
    return number


def read_rate(word):
    rate = read_fraction(word)
    if not is_before(NOUGHT, rate):
        raise NoText("a rate is above nought")
    return rate


def read_word(word, kind):
    if kind == "name":
        return read_name(word)
    if kind == "fraction":
        return read_fraction(word)
    if kind == "rate":
        return read_rate(word)
    if kind == "count":
        return read_from(word, 0)
    if kind == "length":
        return read_from(word, 1)
    return read_number(word)


def read_words(words, kinds):
    if len(words) != len(kinds):
        raise NoText("a word is missing or too many")
    return tuple([read_word(word, kind) for word, kind in zip(words, kinds)])


def read_item(text):
    check_text(text)
    words = text.split(" ")
    if words[0] not in ITEMS:
        raise NoText("this shows no item")
    return (words[0],) + read_words(words[1:], ITEMS[words[0]])


def read_track(text):
    check_text(text)
    if text == "":
        return []
    track = [read_item(part) for part in text.split("; ")]
    if not is_in_one_form(track):
        raise NoText("this track is not in the one form")
    return track
