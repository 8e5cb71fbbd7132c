"""A text's lines and words, and the forms that words have."""

CAPITALS = "ABCDEFGHIJKLMNOPQRSTUVWXYZ"
SMALLS = "abcdefghijklmnopqrstuvwxyz"
DIGITS = "0123456789"
BLANK = " "
POINT = "."
EQUAL = "="
# stands for every byte that no word may have: it is in no form
STRANGE = "?"

LINE_END = 10

MOST_NUMBER_DIGITS = 9
MOST_AMOUNT_DIGITS = 13


def split_lines(text):
    lines = []
    line = []
    for byte in text:
        if byte == LINE_END:
            lines.append(line)
            line = []
        else:
            line.append(byte)
    # behind the last byte 10 there is a line only if there are bytes
    if line:
        lines.append(line)
    return lines


def sign_table():
    signs = CAPITALS + SMALLS + DIGITS + BLANK + POINT + EQUAL
    return dict([(ord(sign), sign) for sign in signs])


def split_words(line, signs):
    written = "".join([signs.get(byte, STRANGE) for byte in line])
    return [word for word in written.split(BLANK) if word != ""]


def has_only(word, signs):
    return all([sign in signs for sign in word])


def is_coin_name(word):
    return len(word) == 3 and has_only(word, CAPITALS)


def is_item(word):
    return 1 <= len(word) <= 10 and word[0] in SMALLS and has_only(word, SMALLS + DIGITS)


def is_document_name(word):
    return 2 <= len(word) <= 8 and word[0] in CAPITALS and has_only(word[1:], DIGITS)


def is_number(word, most_digits):
    if not 1 <= len(word) <= most_digits or not has_only(word, DIGITS):
        return False
    return word == "0" or word[0] != "0"


# None if the word hasn't the form of an amount with so many digits behind the point
def amount_units(word, digits):
    if digits == 0:
        return int(word) if is_number(word, MOST_AMOUNT_DIGITS) else None
    parts = word.split(POINT)
    if len(parts) != 2 or not is_number(parts[0], MOST_AMOUNT_DIGITS):
        return None
    if len(parts[1]) != digits or not has_only(parts[1], DIGITS):
        return None
    return int(parts[0] + parts[1])
