"""Signs, the kinds that they are of, and texts."""

KINDS = ("small", "great", "figure", "mark", "any")

SIGNS_BY_KIND = (
    ("small", "abcdefghijklmnopqrstuvwxyz"),
    ("great", "ABCDEFGHIJKLMNOPQRSTUVWXYZ"),
    ("figure", "0123456789"),
    ("mark", " -.,/"),
)

LONGEST_TEXT = 24


def kind_of(sign):
    for kind, signs in SIGNS_BY_KIND:
        if sign in signs:
            return kind
    return None


def is_of(kind, sign):
    return kind == "any" or kind_of(sign) == kind


def is_text(thing):
    # The length is asked first, so that a very long text is not gone through.
    if not isinstance(thing, str) or len(thing) > LONGEST_TEXT:
        return False
    return all([kind_of(sign) is not None for sign in thing])
