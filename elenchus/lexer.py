"""Tokens: the words and signs of a source text."""

from elenchus.errors import TextError

CAPITALS = "ABCDEFGHIJKLMNOPQRSTUVWXYZ"
LETTERS = "abcdefghijklmnopqrstuvwxyzABCDEFGHIJKLMNOPQRSTUVWXYZ"
WORD_CHARACTERS = "abcdefghijklmnopqrstuvwxyzABCDEFGHIJKLMNOPQRSTUVWXYZ0123456789_"
SIGNS = ("(", ")", ",", ":", ".", "~", "&", "|", "=", "!=", "->", "<->")

MOST_CHARACTERS = 20000
LONGEST_WORD = 20


def tokens(text):
    """Return the list of tokens (kind, text, line, column), the end token last."""
    if len(text) > MOST_CHARACTERS:
        raise TextError(1, 1, "text too long")
    found = []
    line = 1
    line_start = 0
    at = 0
    while at < len(text):
        if text[at] == "\n":
            at += 1
            line += 1
            line_start = at
        elif text[at] in " \t":
            at += 1
        elif text[at] == "#":
            at = remark_end(text, at)
        else:
            token = token_at(text, at, line, at - line_start + 1)
            found.append(token)
            at += len(token[1])
    found.append(("end", "", line, at - line_start + 1))
    return found


def remark_end(text, start):
    """Return the index behind the remark that begins at `start`."""
    end = text.find("\n", start)
    return len(text) if end < 0 else end


def token_at(text, start, line, column):
    """Return the token that begins at `start`."""
    if text[start] in LETTERS:
        word = word_at(text, start)
        if len(word) > LONGEST_WORD:
            raise TextError(line, column, "name too long")
        kind = "variable" if word[0] in CAPITALS else "name"
        return (kind, word, line, column)
    for sign in SIGNS:
        if text.startswith(sign, start):
            return ("sign", sign, line, column)
    raise TextError(line, column, "unknown character")


def word_at(text, start):
    """Return the longest word that begins at `start`."""
    end = start
    while end < len(text) and text[end] in WORD_CHARACTERS:
        end += 1
    return text[start:end]
