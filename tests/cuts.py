"""What all texts' first wrong signs have to be: [14]."""

SIGNS = list("abnpstuxyjlz019-() \n") + ["\r", "\t", "A", "%", "\u00e9", "\u0661", "."]


def check_right_text(test, fault, text):
    """A text that is right is, cut at any sign, wrong at none of its signs."""
    test.assertIsNone(fault(text), text)
    for at in range(len(text)):
        test.assertIn(fault(text[:at]), (None, at), text[:at])


def check_any_text(test, fault, text):
    """A text that is cut ahead of its first wrong sign is not wrong, and is wrong with it."""
    at = fault(text)
    if at is None:
        at = len(text)
    test.assertTrue(0 <= at <= len(text), text)
    test.assertIn(fault(text[:at]), (None, at), text)
    if at < len(text):
        test.assertEqual(fault(text[:at + 1]), at, text)
        test.assertEqual(fault(text + "\n"), at, text)
    return at


def otherwise(text, chance):
    """The text with one sign otherwise, more or fewer at every place, and with one word or line otherwise."""
    told = []
    for at in range(len(text) + 1):
        sign = chance.one_of(SIGNS)
        told.extend([text[:at] + sign + text[at:], text[:at] + sign + text[at + 1:], text[:at] + text[at + 1:]])
    lines = text.split("\n")
    for at, line in enumerate(lines):
        other = chance.one_of(lines)
        told.append("\n".join([*lines[:at], other, *lines[at:]]))
        told.append("\n".join([*lines[:at], other, *lines[at + 1:]]))
        told.append("\n".join([*lines[:at], *lines[at + 1:]]))
        words = line.split(" ")
        for place in range(len(words)):
            word = chance.one_of(text.split() or [""])
            told.append("\n".join([*lines[:at], " ".join([*words[:place], word, *words[place + 1:]]), *lines[at + 1:]]))
            told.append("\n".join([*lines[:at], " ".join([*words[:place], word, *words[place:]]), *lines[at + 1:]]))
    return told


def check_goes_on(test, goes_on, fault, text):
    """Where a text is not wrong, one that is right begins with it; else none does."""
    more = goes_on(text)
    if fault(text) in (None, len(text)):
        test.assertTrue(more.startswith(text), text)
        test.assertIsNone(fault(more), more)
        test.assertEqual(more, goes_on(text))
    else:
        test.assertIsNone(more, text)
