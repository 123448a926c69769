"""Jarvisits: what a browser's jar sends where, for all rows of visits."""
