"""Sheetworks: a workbook that recalculates just what it must."""
