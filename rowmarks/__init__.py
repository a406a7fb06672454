"""Rowmarks: row locks that are kept in the rows themselves."""
