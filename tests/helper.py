"""What several tests need: the refusals, things that are no numbers, and how a refusal is seen."""

from shareparley import errors

REFUSALS = ["NoNumber", "NoGroup", "NoRule", "NoText", "NoTable", "Unlike", "TooMany", "NoOrder",
            "NoRows", "NoShares", "NoVotes"]


class Stranger:
    """A thing of no sort that the program knows, which may not even be compared or shown."""

    __hash__ = None

    def __eq__(self, other):
        raise RuntimeError("compared")

    def __repr__(self):
        raise RuntimeError("shown")


def no_numbers():
    """Things of many sorts, none of them a whole number."""
    return [True, False, None, "", "1", "x", b"1", 1.0, 0.0, float("nan"), 1j, [], [1], (), (1,), (1, 2),
            {}, {1: 1}, {1}, frozenset(), range(3), int, len, object(), Stranger()]


def see_refused(case, name, call, *handed):
    """The call is refused with just the named error, which is none of the other refusals."""
    try:
        call(*handed)
    except Exception as error:
        case.assertIsInstance(error, errors.ShareError)
        case.assertIsInstance(error, ValueError)
        for refusal in REFUSALS:
            case.assertEqual(isinstance(error, getattr(errors, refusal)), refusal == name, refusal)
    else:
        case.fail(f"not refused with {name}")
