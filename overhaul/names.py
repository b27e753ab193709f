"""Names of craft. They are compared as texts are, with Python's own <."""

SIGNS = "abcdefghijklmnopqrstuvwxyz0123456789"
LONGEST = 8


def good_name(text):
    """Whether a text is a good name."""
    if len(text) < 1 or len(text) > LONGEST:
        return False
    return all(sign in SIGNS for sign in text)
