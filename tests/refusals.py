"""Wrong arguments: each in the place of each kind of object, and several at once, the first one told."""

from random import Random

from keeprows.errors import (
    InvalidArgument, InvalidNumber, InvalidPage, InvalidRow, InvalidSettings, LimitExceeded, StoreError,
)
from keeprows.far import Far
from keeprows.settings import Settings

from plain import ROWS, strange_objects

ATTRIBUTES = {
    InvalidArgument: "part", InvalidNumber: "number", InvalidPage: "page", InvalidRow: "row", InvalidSettings: "part",
    LimitExceeded: "limit",
}


def numbers_but(least, most):
    """What is no integer from least to most; most may be None."""
    wrong = strange_objects() + [least - 1, least - 2, -ROWS, -10 ** 60, float(least), str(least), (least,)]
    if most is not None:
        wrong += [most + 1, most + 2, 10 ** 60, float(most), str(most)]
    return wrong


def settings_but():
    others = [told for told in strange_objects() if not isinstance(told, Settings)]
    return others + [0, 5, -1, ROWS, ([2, 1, 3], 5), "settings"]


def fars_but():
    return [told for told in strange_objects() if not isinstance(told, Far)] + [0, 5, "far"]


WRONG_SETTINGS = ("settings", settings_but(), InvalidSettings, "settings")
WRONG_MOMENT = ("moment", numbers_but(0, ROWS), InvalidNumber, None)
WRONG_ROW = ("row", numbers_but(0, ROWS - 1), InvalidRow, None)
WRONG_FAR = ("far", fars_but(), InvalidArgument, "far")


def check_refused(test, call, arguments, error, part):
    """Check that a call raises an error; part is what it tells, or the name of the argument that it tells."""
    with test.assertRaises(StoreError, msg=repr(arguments)) as caught:
        call(**arguments)
    test.assertIs(type(caught.exception), error, repr(arguments))
    told = getattr(caught.exception, ATTRIBUTES[error])
    if part in arguments and error not in (InvalidArgument, InvalidSettings):
        test.assertIs(told, arguments[part])
    else:
        test.assertEqual(told, part)
    with test.assertRaises(error):
        call(*arguments.values())


def check_refusals(test, call, good, wrongs):
    """Check the errors of a call: wrongs has (argument, wrong objects, error, what it tells), the first error first.

    Where what it tells is None, it is the object itself.
    """
    chance = Random(17)
    for at, (name, objects, error, part) in enumerate(wrongs):
        part = name if part is None else part
        for told in objects:
            check_refused(test, call, {**good, name: told}, error, part)
            arguments = {**good, name: told}
            for later, others, _, _ in wrongs[at + 1:]:
                if later != name and chance.randrange(3):
                    arguments[later] = chance.choice(others)
            check_refused(test, call, arguments, error, part)
    call(**good)
    call(*good.values())
