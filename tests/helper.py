"""What several tests ask alike."""

from byexample import errors

REFUSALS = (errors.NoProgram, errors.NoNumber, errors.NothingFits, errors.Twice, errors.NoExample)


def assert_refused(case, refusal, function, *things):
    """Each time it is asked, the function refuses the things with the refusal, and with none of the other four."""
    for again in range(2):
        with case.assertRaises(refusal) as taken:
            function(*things)
        case.assertIsInstance(taken.exception, errors.FitError)
        case.assertIsInstance(taken.exception, ValueError)
        for other in REFUSALS:
            if other is not refusal:
                case.assertNotIsInstance(taken.exception, other)


def assert_same(case, told, wanted):
    """Equal, and of the same kinds all the way down: True is not taken for 1, nor a list for a tuple."""
    case.assertEqual(told, wanted)
    case.assertIs(type(told), type(wanted))
    if type(wanted) in (tuple, list):
        for part, other in zip(told, wanted, strict=True):
            assert_same(case, part, other)
