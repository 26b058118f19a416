"""Settings as texts: [8] and [9]."""

import unittest
from random import Random

from keeprows import texts
from keeprows.errors import InvalidSettings, InvalidText, StoreError
from keeprows.settings import Settings
from keeprows.texts import read_settings, settings_text

from model import random_settings
from plain import make, strange_objects
from refusals import WRONG_SETTINGS, check_refusals

WORDS = ["lengths", "size", "fanout", "records", "every", "keep"]
BOUNDS = {"fanout": (2, 8), "records": (1, 16), "every": (1, 40), "keep": (1, 100)}


def all_sizes(chance, many):
    """Settings of all sizes, also such at the bounds."""
    found = [random_settings(chance) for _ in range(many)]
    for bound in (0, 1):
        parts = [BOUNDS[word][bound] for word in WORDS[2:]]
        found += [make([1], 1, *parts), make([64] * 6, 64, *parts), make([1], 64, *parts)]
    return found


def plain_text(settings):
    values = [" ".join(map(str, settings.lengths)), settings.size, settings.fanout, settings.records, settings.every]
    return "".join(f"{word} {value}\n" for word, value in zip(WORDS, values + [settings.keep]))


def is_number(text, least, most):
    return any(text == str(number) for number in range(least, most + 1))


def can_stand(lines, at):
    """Whether a line can stand behind those ahead of it, as the document's words say it."""
    word, _, value = lines[at].partition(" ")
    if word != WORDS[at]:
        return False
    if at == 0:
        values = value.split(" ")
        return len(values) <= 6 and all(is_number(one, 1, 64) for one in values)
    if at == 1:
        return is_number(value, max(map(int, lines[0].split(" ")[1:])), 64)
    return is_number(value, *BOUNDS[WORDS[at]])


def first_wrong(text):
    """The number of the first line that cannot stand there, None if there is none."""
    lines = text.split("\n")
    for at in range(6):
        if at >= len(lines) - 1 or not can_stand(lines, at):
            return at
    return None if lines[6:] == [""] else 6


class TextTest(unittest.TestCase):

    def test_texts_and_settings(self):
        seen = {}
        for settings in all_sizes(Random(601), 1500):
            text = settings_text(settings)
            self.assertEqual(text, plain_text(settings))
            told = read_settings(text)
            self.assertTrue(told == settings)
            self.assertIs(type(told), Settings)
            self.assertTrue(seen.setdefault(text, settings) == settings)
            self.assertEqual([text.count("\n"), text[-1]], [6, "\n"])

    def test_unlike_settings_have_unlike_texts(self):
        parts = [[2, 1, 3], 5, 2, 3, 4, 9]
        text = settings_text(make(*parts))
        for at, others in enumerate([[[1, 2, 3], [2, 1, 3, 2], [2, 1], [3]], [6, 4, 64], [3], [4], [5], [8, 90]]):
            for other in others:
                told = settings_text(make(*(parts[:at] + [other] + parts[at + 1:])))
                self.assertNotEqual(told, text)

    def check_text(self, text):
        """Check what a text is: settings that have just this text, or the first line that cannot stand there."""
        line = first_wrong(text)
        if line is None:
            self.assertEqual(settings_text(read_settings(text)), text)
            return True
        with self.assertRaises(InvalidText, msg=repr(text)) as caught:
            read_settings(text)
        self.assertEqual(caught.exception.line, line, repr(text))
        return False

    def change(self, chance, text):
        """The text with one change."""
        at = chance.randint(0, len(text))
        sign = chance.choice("0123456789 \n\t\r-+_.lsfrekaz\x00\x0b\x1c\x85\u0663\u2028\u00b2\ufeff\U0001d7d8")
        lines = text.splitlines(True)
        line = chance.randrange(len(lines)) if lines else 0
        ways = [
            lambda: text[:at] + sign + text[at:], lambda: text[:at] + text[at + 1:], lambda: text[:at],
            lambda: text[:at] + sign + text[at + 1:], lambda: text[at:],
            lambda: "".join(lines[:line] + lines[line + 1:]),
            lambda: "".join(lines[:line] + lines[line:line + 1] * 2 + lines[line + 1:]),
            lambda: "".join(lines[line:] + lines[:line]), lambda: text + sign, lambda: text.replace("\n", "\r\n"),
            lambda: self.with_other_number(chance, text), lambda: self.with_other_number(chance, text),
            lambda: "".join(chance.sample(lines, len(lines))), lambda: text.replace(" ", "  ", 1),
        ]
        return chance.choice(ways)()

    def with_other_number(self, chance, text):
        words = text.split(" ")
        at = chance.randrange(len(words))
        number = chance.choice([0, 1, 2, 7, 8, 9, 16, 17, 40, 41, 63, 64, 65, 100, 101, -1, 10 ** 20, "05", "+5", "5.0"])
        words[at] = str(number) + ("\n" + words[at].split("\n")[1] if "\n" in words[at] else "")
        return " ".join(words)

    def test_one_or_two_changes(self):
        chance = Random(602)
        good = 0
        for settings in all_sizes(chance, 3000):
            text = self.change(chance, settings_text(settings))
            good += self.check_text(text)
            good += self.check_text(self.change(chance, text))
        self.assertGreater(good, 150)

    def test_all_cuts_and_left_out_signs(self):
        text = "lengths 2 1 3\nsize 5\nfanout 2\nrecords 3\nevery 4\nkeep 9\n"
        for at in range(len(text)):
            self.assertFalse(self.check_text(text[:at]))
            self.check_text(text[:at] + text[at + 1:])
            for sign in " \n0159lz":
                self.check_text(text[:at] + sign + text[at:])
                self.check_text(text[:at] + sign + text[at + 1:])
        for more in ["\n", " ", "keep 9\n", "x", "\r", "\x00", text]:
            with self.assertRaises(InvalidText) as caught:
                read_settings(text + more)
            self.assertEqual(caught.exception.line, 6)

    def test_numbers_of_thousands_of_figures(self):
        lines = ["lengths 2 1 3", "size 5", "fanout 2", "records 3", "every 4", "keep 9"]
        for at, line in enumerate(lines):
            for figures in ["9" * 5000, "0" * 5000 + line[-1], "1" * 100000, "-" * 9000]:
                changed = lines[:at] + [line[:-1] + figures] + lines[at + 1:]
                with self.assertRaises(InvalidText) as caught:
                    read_settings("\n".join(changed) + "\n")
                self.assertEqual(caught.exception.line, at)

    def test_told_by_hand(self):
        for text, line in [
            ("", 0), ("\n", 0), ("lengths\n", 0), ("lengths \n", 0), ("lengths 1", 0), ("lengths 1\n", 1),
            ("lengths 65\n", 0), ("lengths 1 1 1 1 1 1 1\n", 0), ("lengths 5\nsize 4\n", 1), ("lengths 5\nsize 5\n", 2),
            ("size 5\nlengths 5\n", 0), ("lengths 5\nsize 5\nfanout 9\n", 2), ("lengths 5\n\nsize 5\n", 1),
            ("lengths 5 \nsize 5\n", 0), (" lengths 5\n", 0), ("Lengths 5\n", 0), ("lengths 5\nsize 65\n", 1),
            ("lengths 5\r\nsize 5\r\n", 0), ("lengths \u0665\n", 0), ("lengths 5\x85size 5\x85", 0),
        ]:
            with self.assertRaises(InvalidText) as caught:
                read_settings(text)
            self.assertEqual(caught.exception.line, line, repr(text))


class WrongArgumentsTest(unittest.TestCase):

    def test_what_is_no_settings(self):
        check_refusals(self, settings_text, {"settings": make([1], 1)}, [WRONG_SETTINGS])

    def test_what_is_no_string(self):
        text = settings_text(make([1], 1))
        for told in strange_objects() + [5, text.encode(), [text], (text,), text.splitlines(), make([1], 1)]:
            if isinstance(told, str):
                continue
            for call in [lambda: read_settings(told), lambda: read_settings(text=told)]:
                with self.assertRaises(StoreError) as caught:
                    call()
                self.assertIs(type(caught.exception), InvalidText)
                self.assertEqual(caught.exception.line, -1)

    def test_by_name_and_its_place(self):
        settings = make([2, 1, 3], 5)
        self.assertEqual(settings_text(settings=settings), settings_text(settings))
        self.assertTrue(read_settings(text=settings_text(settings)) == settings)
        for call in [settings_text, read_settings]:
            self.assertEqual(call.__module__, "keeprows.texts")
            self.assertIs(getattr(texts, call.__name__), call)
        with self.assertRaises(InvalidSettings):
            settings_text("lengths 1\n")


if __name__ == "__main__":
    unittest.main()
