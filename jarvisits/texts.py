"""Written forms of WRITEs, ADDRESSes and SITEs, and the SITE that a written form tells."""

from jarvisits.addresses import LETTERS, LONGEST_WORD, SIGNS, is_address, need_address
from jarvisits.errors import BadQuestion, BadText
from jarvisits.sites import is_write, need_site

SECURE_SCHEME = "https://"
OPEN_SCHEME = "http://"
PAGE_MARK = "page "
WRITE_MARK = "set "
DOMAIN_PART = "; Domain="
FOLDER_PART = "; Path="
GUARDED_PART = "; Secure"
REMOVED_PART = "; Max-Age=0"
# With so many of its first signs each of the four parts is unlike the others.
PART_MARK = 3


def _host_text(host):
    """The written form of a HOST."""
    return ".".join(host)


def _path_text(path):
    """The written form of a PATH."""
    return "/" + "/".join(path)


def _written_write(write):
    """The written form of what is a WRITE."""
    name, value, domain, folder, guarded = write
    parts = [name, "=", "" if value is None else value]
    if domain is not None:
        parts += [DOMAIN_PART, _host_text(domain)]
    if folder is not None:
        parts += [FOLDER_PART, _path_text(folder)]
    if guarded:
        parts.append(GUARDED_PART)
    if value is None:
        parts.append(REMOVED_PART)
    return "".join(parts)


def _written_address(address):
    """The written form of what is an ADDRESS."""
    host, path, secure = address
    return (SECURE_SCHEME if secure else OPEN_SCHEME) + _host_text(host) + _path_text(path)


def write_text(write):
    """The written form of a WRITE."""
    if not is_write(write):
        raise BadQuestion("what is no WRITE has no written form")
    return _written_write(write)


def address_text(address):
    """The written form of an ADDRESS."""
    if not is_address(address):
        raise BadQuestion("what is no ADDRESS has no written form")
    return _written_address(address)


def site_text(site):
    """The written form of a SITE."""
    need_site(site)
    lines = []
    for address, writes in site:
        lines.append(PAGE_MARK + _written_address(address))
        lines += [WRITE_MARK + _written_write(write) for write in writes]
    return "\n".join(lines)


class Line:
    """A line that is read from its begin on, and refused at the first character that cannot stand there."""

    def __init__(self, text, number):
        self.text = text
        self.number = number
        self.at = 0

    def refuse(self):
        """Refuses the line where it is read; this is its end if more has to come."""
        raise BadText(self.number, self.at)

    def sees(self, word):
        """Whether this word comes next."""
        return self.text.startswith(word, self.at)

    def sees_one_of(self, signs):
        """Whether one of these signs comes next."""
        return self.at < len(self.text) and self.text[self.at] in signs

    def need(self, word):
        """Reads this very word."""
        for sign in word:
            if not self.sees(sign):
                self.refuse()
            self.at += 1

    def need_word(self, signs):
        """Reads 1 to 6 of these signs, and returns them."""
        begin = self.at
        while self.at < begin + LONGEST_WORD and self.sees_one_of(signs):
            self.at += 1
        if self.at == begin:
            self.refuse()
        return self.text[begin:self.at]

    def takes(self, part):
        """Reads this part of a WRITE if it comes next; whether it did."""
        if not self.sees(part[:PART_MARK]):
            return False
        self.need(part)
        return True

    def need_end(self):
        """Refuses the line if it goes on."""
        if self.at < len(self.text):
            self.refuse()


def _read_host(line):
    """Reads a HOST; by its form it has two LABELs or more."""
    labels = [line.need_word(SIGNS)]
    line.need(".")
    labels.append(line.need_word(SIGNS))
    while line.sees("."):
        line.need(".")
        labels.append(line.need_word(SIGNS))
    return tuple(labels)


def _read_path(line):
    """Reads a PATH; by its form it has any number of SEGMENTs."""
    segments = []
    line.need("/")
    if line.sees_one_of(SIGNS):
        segments.append(line.need_word(SIGNS))
        while line.sees("/"):
            line.need("/")
            segments.append(line.need_word(SIGNS))
    return tuple(segments)


def _read_address(line):
    """Reads an ADDRESS."""
    line.need("http")
    secure = line.sees("s")
    if secure:
        line.need("s")
    line.need("://")
    host = _read_host(line)
    return (host, _read_path(line), secure)


def read_address(string):
    """The ADDRESS whose written form this string is; BadText, then BadAddress."""
    line = Line(string, 0)
    address = _read_address(line)
    line.need_end()
    return need_address(address)


def _read_write(line):
    """Reads a WRITE."""
    name = line.need_word(LETTERS)
    line.need("=")
    value = line.need_word(SIGNS) if line.sees_one_of(SIGNS) else None
    domain = _read_host(line) if line.takes(DOMAIN_PART) else None
    folder = _read_path(line) if line.takes(FOLDER_PART) else None
    guarded = line.takes(GUARDED_PART)
    if value is None:
        line.need(REMOVED_PART)
    elif not guarded and line.sees(";"):
        # This part alone could still come, and does not: the line is refused where the two differ.
        line.need(GUARDED_PART)
    return (name, value, domain, folder, guarded)


def read_site(string):
    """The SITE whose written form this is."""
    if not isinstance(string, str):
        raise BadText(-1, -1)
    pages = []
    for number, text in enumerate(string.split("\n")):
        line = Line(text, number)
        if number > 0 and line.sees(WRITE_MARK[0]):
            line.need(WRITE_MARK)
            pages[-1][1].append(_read_write(line))
        else:
            line.need(PAGE_MARK)
            pages.append((_read_address(line), []))
        line.need_end()
    return need_site(tuple([(address, tuple(writes)) for address, writes in pages]))
