"""Life tables as texts."""

from actuarium.errors import InvalidText, NotText
from actuarium.lives import MOST_AGES, MOST_LIVES, check_lives


def write_lives(lives):
    """Return the text of a life table."""
    check_lives(lives)
    return ", ".join(str(living) for living in lives)


def behind_spaces(text, place):
    """Return the first place from a place on at which there is no space."""
    while place < len(text) and text[place] == " ":
        place += 1
    return place


def behind_digits(text, place):
    """Return the first place from a place on at which there is no digit from 0 to 9."""
    while place < len(text) and "0" <= text[place] <= "9":
        place += 1
    return place


def number_between(text, start, stop):
    """Return the number with these digits, None if it has a leading zero or too many digits."""
    digits = text[start:stop]
    if len(digits) > 1 and digits[0] == "0":
        return None
    # Python itself refuses to read very long numbers, so they are turned away unread.
    if len(digits) > len(str(MOST_LIVES)):
        return None
    return int(digits)


def may_follow(number, lives):
    """Tell whether a number may stand in a life table behind the ones that were read."""
    if not lives:
        return 0 < number <= MOST_LIVES
    if len(lives) == MOST_AGES - 1:
        return number == 0
    return number <= lives[-1]


def read_lives(text):
    """Return the life table that a text names."""
    if not isinstance(text, str):
        raise NotText("a text is a string")
    lives = []
    place = 0
    while not lives or lives[-1] > 0:
        if lives:
            if place == len(text) or text[place] != ",":
                raise InvalidText(place)
            place += 1
        start = behind_spaces(text, place)
        stop = behind_digits(text, start)
        if start == stop:
            raise InvalidText(start)
        number = number_between(text, start, stop)
        if number is None or not may_follow(number, lives):
            raise InvalidText(start)
        lives.append(number)
        place = behind_spaces(text, stop)
    if place < len(text):
        raise InvalidText(place)
    return tuple(lives)
