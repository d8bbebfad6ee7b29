"""Promise 4: the refusals, and what they keep."""

import copy
import pickle
import unittest

from truechain import errors
from tests.helper import Stubborn, junk

FIELDS = {
    "Wrong": "at", "NoSpot": None, "NoText": None, "Twice": "key", "TooMany": "most", "NoPaper": "key",
    "NoThing": "name", "NoChain": "at", "NoOff": "key", "NoReading": "key", "NoOffer": "at", "NoDeed": None,
    "NoRow": None,
}


def made(word):
    """A refusal of this class, made of the thing 7 where it has a field."""
    refusal = getattr(errors, word)
    return refusal() if FIELDS[word] is None else refusal(7)


class Refusals(unittest.TestCase):

    def test_there_are_thirteen(self):
        found = [word for word, thing in vars(errors).items()
                 if isinstance(thing, type) and issubclass(thing, errors.ChainError)]
        self.assertEqual(sorted(found), sorted([*FIELDS, "ChainError"]))
        self.assertEqual(len(FIELDS), 13)

    def test_chain_error_stands_under_value_error(self):
        self.assertEqual(errors.ChainError.__bases__, (ValueError,))

    def test_each_is_a_chain_error_and_a_value_error(self):
        for word in FIELDS:
            with self.subTest(word):
                with self.assertRaises(errors.ChainError):
                    raise made(word)
                with self.assertRaises(ValueError):
                    raise made(word)

    def test_none_is_another_one(self):
        for word in FIELDS:
            for other in FIELDS:
                with self.subTest(word, other=other):
                    self.assertEqual(isinstance(made(word), getattr(errors, other)), word == other)

    def test_each_keeps_its_field(self):
        for word, field in FIELDS.items():
            with self.subTest(word):
                kept = {} if field is None else {field: 7}
                self.assertEqual(vars(made(word)), kept)

    def test_each_may_be_made_of_anything(self):
        for word, field in FIELDS.items():
            if field is None:
                continue
            for thing in junk() + [10 ** 3999, [[10 ** 3999]]]:
                with self.subTest(word, kind=type(thing).__name__):
                    refusal = getattr(errors, word)(thing)
                    self.assertIs(getattr(refusal, field), thing)
                    self.assertIsInstance(str(refusal), str)

    def test_two_of_a_class_keep_their_own(self):
        one, other = errors.Twice(1), errors.Twice(2)
        self.assertEqual((one.key, other.key), (1, 2))

    def test_each_says_something_and_can_be_shown(self):
        for word in FIELDS:
            with self.subTest(word):
                self.assertTrue(str(made(word)))
                self.assertIn(word, repr(made(word)))

    def test_each_can_be_copied(self):
        for word in FIELDS:
            for again in (copy.copy(made(word)), copy.deepcopy(made(word)), pickle.loads(pickle.dumps(made(word)))):
                with self.subTest(word):
                    self.assertIs(type(again), getattr(errors, word))
                    self.assertEqual(vars(again), vars(made(word)))
                    self.assertEqual(str(again), str(made(word)))


class Require(unittest.TestCase):

    def test_all_as_told(self):
        self.assertIsNone(errors.require())
        self.assertIsNone(errors.require(True))
        self.assertIsNone(errors.require(True, True, True))

    def test_the_first_is_refused(self):
        for told, at in (((False,), 0), ((True, False), 1), ((False, False), 0), ((True, True, False), 2),
                         ((True, False, True, False), 1)):
            with self.subTest(told):
                with self.assertRaises(errors.Wrong) as caught:
                    errors.require(*told)
                self.assertEqual(caught.exception.at, at)


class TestOfTheTest(unittest.TestCase):

    def test_a_stubborn_thing_is_stubborn(self):
        for ask in (repr, str, len, bool, hash, int, iter, lambda thing: thing == 1, lambda thing: 0 <= thing):
            with self.assertRaises(RuntimeError):
                ask(Stubborn())
