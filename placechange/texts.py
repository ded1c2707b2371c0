"""Texts: a dance written, and read again."""

from placechange.checks import MOST_STEPS, check_count, check_dance
from placechange.errors import BadText


def written(dancers, dance):
    check_dance(dancers, dance)
    return " ".join([str(step) for step in dance])


def words_of(text):
    # Split at its blanks, the empty text would be one word.
    if text == "":
        return []
    return text.split(" ")


def read(dancers, text):
    check_count(dancers)
    if not isinstance(text, str):
        raise BadText("no text")
    steps = [str(step) for step in range(dancers - 1)]
    words = words_of(text)
    # Each word is held against the steps as they are written, so that nothing written otherwise is taken for one.
    if not all([word in steps for word in words]):
        raise BadText("no text of a dance of so many dancers")
    if len(words) > MOST_STEPS:
        raise BadText("a dance that is too long")
    return [steps.index(word) for word in words]
