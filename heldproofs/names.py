"""What counts as a name and as a number, wherever one is written."""

NAME_LENGTH = 12
NUMBER_LENGTH = 9


def is_letter(char):
    """Whether this is a lowercase letter; False for the empty string, too."""
    return "a" <= char <= "z"


def is_digit(char):
    """Whether this is a digit; False for the empty string, too."""
    return "0" <= char <= "9"


def is_name(text):
    """Whether a string is a name of a word, a hold or an entry."""
    if not 1 <= len(text) <= NAME_LENGTH or not is_letter(text[0]):
        return False
    for char in text:
        if not is_letter(char) and not is_digit(char):
            return False
    return True


def is_number(text):
    """Whether a string is a number as texts write it, without needless zeros."""
    if not 1 <= len(text) <= NUMBER_LENGTH:
        return False
    for char in text:
        if not is_digit(char):
            return False
    return text == "0" or text[0] != "0"
