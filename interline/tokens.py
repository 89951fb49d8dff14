"""The tokens of texts: parentheses, names and numerals."""

from interline.errors import TextError

LETTERS = "abcdefghijklmnopqrstuvwxyzABCDEFGHIJKLMNOPQRSTUVWXYZ"
DIGITS = "0123456789"
MAX_DIGITS = 9


def in_name(sign):
    """Tell whether a character may stand in a name."""
    return sign in LETTERS or sign in DIGITS or sign == "_"


def in_word(sign):
    """Tell whether a character may stand in a word."""
    return in_name(sign) or sign == "-"


def is_name(word):
    """Tell whether a string is a name, of any length."""
    return word != "" and word[0] in LETTERS and all([in_name(sign) for sign in word])


def is_plain_numeral(word):
    """Tell whether a string is a numeral without a sign."""
    if not 1 <= len(word) <= MAX_DIGITS or not all([sign in DIGITS for sign in word]):
        return False
    return word == "0" or word[0] != "0"


def is_numeral(word):
    """Tell whether a string is a numeral."""
    if word.startswith("-"):
        return word != "-0" and is_plain_numeral(word[1:])
    return is_plain_numeral(word)


def word_end(text, at):
    """Return the index behind the word that begins at an index."""
    while at < len(text) and in_word(text[at]):
        at += 1
    return at


def word_token(word, at):
    """Return the token of a word, or raise TextError if it is neither a name nor a numeral."""
    if is_name(word):
        return ("name", word, at)
    if is_numeral(word):
        return ("number", int(word), at)
    raise TextError(at)


def scan(text):
    """Return the tokens of a text, triples of a kind, a value and the index of the first character."""
    tokens = []
    at = 0
    while at < len(text):
        sign = text[at]
        if in_word(sign):
            end = word_end(text, at)
            tokens.append(word_token(text[at:end], at))
            at = end
        elif sign == "(" or sign == ")":
            tokens.append((sign, sign, at))
            at += 1
        elif sign == " " or sign == "\n":
            at += 1
        else:
            raise TextError(at)
    return tokens


class Reader:
    """The tokens of a text, taken one by one from the first to the last."""

    def __init__(self, text):
        self.length = len(text)
        self.tokens = scan(text)
        self.taken = 0

    def has_more(self):
        """Tell whether a token is left."""
        return self.taken < len(self.tokens)

    def sees(self, kind):
        """Tell whether the next token is of a kind."""
        return self.has_more() and self.tokens[self.taken][0] == kind

    def refuse(self):
        """Raise TextError for the next token, which cannot stand here, or for the end of the text."""
        if self.has_more():
            raise TextError(self.tokens[self.taken][2])
        raise TextError(self.length)

    def take(self, kind):
        """Take the next token, which must be of a kind, and return its value."""
        if not self.sees(kind):
            self.refuse()
        value = self.tokens[self.taken][1]
        self.taken += 1
        return value

    def take_word(self, words):
        """Take the next token, which must be one of some words, and return it."""
        if not self.sees("name") or self.tokens[self.taken][1] not in words:
            self.refuse()
        return self.take("name")

    def take_all(self, kind):
        """Take all next tokens of a kind and return the tuple of their values."""
        row = []
        while self.sees(kind):
            row.append(self.take(kind))
        return tuple(row)
