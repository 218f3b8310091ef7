"""Rows: the blanks ahead of a row, and the pieces that it is made of."""

from snakehall.errors import BadRow

LETTERS = "abcdefghijklmnopqrstuvwxyzABCDEFGHIJKLMNOPQRSTUVWXYZ"
FIGURES = "0123456789"
SIGNS = "()[]{},.:=+-*<"
QUOTE = "\""
WORDS = (
    "say", "ask", "if", "else", "while", "for", "in", "break", "next", "deed", "kind", "give", "hand", "try",
    "except", "as", "finally", "raise", "from", "outer", "let", "go", "pass", "sweep", "yes", "no", "none",
    "and", "or", "not", "super", "pull", "size",
)
MOST_LETTERS = 12
MOST_FIGURES = 9
MOST_TEXT = 40
# The percent sign by its number: it belongs to no text.
PERCENT = 37


def pieces_of(row):
    """A tuple: how many blanks are ahead, and the list of the row's pieces."""
    blanks = len(row) - len(row.lstrip(" "))
    pieces = []
    at = blanks
    while at < len(row):
        if row[at] == " ":
            at += 1
        else:
            end = end_of_piece(row, at)
            pieces.append(piece_of(row[at:end]))
            at = end
    if not pieces:
        raise BadRow(0)
    return (blanks, pieces)


def end_of_piece(row, at):
    """The place behind the piece that begins at a place which holds no blank."""
    if row[at] == QUOTE:
        return end_of_text(row, at)
    if is_letter_or_figure(row[at]):
        return end_of_run(row, at)
    if row[at:at + 2] == "==":
        return at + 2
    return at + 1


def end_of_text(row, at):
    """The place behind the quote that ends the text begun at a place."""
    end = row.find(QUOTE, at + 1)
    if end < 0:
        raise BadRow(0)
    return end + 1


def end_of_run(row, at):
    """The place behind all letters and figures that stand side by side from a place on."""
    end = at
    while end < len(row) and is_letter_or_figure(row[end]):
        end += 1
    return end


def piece_of(part):
    """The piece that a part of a row is, refused where it is none."""
    if part[0] == QUOTE:
        return ("text", text_in(part))
    if part[0] in FIGURES:
        return ("number", number_in(part))
    if part[0] in LETTERS:
        return name_or_word(part)
    if part == "==" or part in SIGNS:
        return ("sign", part)
    raise BadRow(0)


def text_in(part):
    """What stands between the two quotes."""
    text = part[1:-1]
    if len(text) > MOST_TEXT or not all([belongs_to_texts(sign) for sign in text]):
        raise BadRow(0)
    return text


def number_in(part):
    """The number that the figures write."""
    if len(part) > MOST_FIGURES or not all([sign in FIGURES for sign in part]):
        raise BadRow(0)
    if part[0] == "0" and part != "0":
        raise BadRow(0)
    return int(part)


def name_or_word(part):
    """A piece of letters and figures that begins with a letter."""
    if len(part) > MOST_LETTERS:
        raise BadRow(0)
    if part in WORDS:
        return ("word", part)
    return ("name", part)


def is_letter_or_figure(sign):
    """Whether a sign is a letter a to z or A to Z, or a figure."""
    return sign in LETTERS or sign in FIGURES


def belongs_to_texts(sign):
    """Whether a sign is one from the blank to the tilde, but the percent sign."""
    return " " <= sign <= "~" and ord(sign) != PERCENT
